import Derived.Test.YtiahkfoojjpaaaaGreatDoorS07
import Derived.Deep.WholeRow
set_option maxRecDepth 100000
set_option maxHeartbeats 16000000
set_option linter.all false
namespace Go.Proofs.YtiahkfoojjpaaaaGreatDoor
open Go.RowKit
variable {Z:List (Nat×Obj)}
theorem Ez{W:World}{v:Value}{e:TypeId}{b size:Nat}{xs:List Value}(h:W.ownsRow b e size v 0 xs)(U:World):(Instr.slice 155 v none (some (.int .i64 0)) none).run Tryz.prog U=.ok v U:=by
 rcases dw h with⟨rfl,_⟩|⟨g,c,rfl⟩
 .kernel_rfl
 .go_simp
theorem Mh{n D Q V pl:Nat}{t:Thr}{sn:Nat->Bool}(ht:okT n D t)(hQ:Q=n*(D+1))(hV:V=pl*Q)(h:¬sn (seenAt n D pl t)=true):uns (more sn (seenAt n D pl t)) V Q+1=uns sn V Q:=by
 have e:seenAt n D pl t=V+(t.pc*(D+1)+t.tk):=by rw[yv,hV,hQ]
 rw[e] at h ⊢;exact ud sn V _ h Q (by rw[hQ];exact at_lt ht.1 ht.2)
theorem tq{w W:World}{f p g c n D sb N Q V pl:Nat}{text:ByteArray}{here:List Thr}{v3 v4 v5:Value}{s:Mc}{cd:Nat->In}{t:Thr}(h:Fg Z w W f p sb N pl text here v3 v4 v5 s)(hl:s.left=[])(hcd:Cd w p g c n D cd)(ht:okT n D t)(hs:OkM n D s)(hQ:Q=n*(D+1))(hV:V=pl*Q)(hN:(text.size+1)*Q<=64*N)(hNb:N<=1000000)(hb:Q<=50000)(hpl:pl<=text.size)(hA:s.ahead.length<=30000):Calls Tryz.prog 161 #[.pointer (some ⟨f,0,none⟩),.agg (tf t.pc t.tk t.x).toArray] W fun e W'=>e=.returned (.tuple #[]) /\ ∃v4' v5' s',Fg Z w W' f p sb N pl text here v3 v4' v5' s'/\s'.left=[]/\OkM n D s'/\s'.ahead.length+uns s'.sn V Q<=s.ahead.length+uns s.sn V Q/\jJ cd n D text pl (some t) s s':=by
 obtain⟨ti,hi,hz0,hz1,hz2⟩:=info_parts Tryz.DM;have HI:=hid hi;have HZ:=hid (And.intro hz0 (And.intro hz1 hz2));clear hi hz0 hz1 hz2;have HF:=hid h;have HCD:=hid hcd;have HOK:=hid (And.intro ht hs);have o5:=h.o5;rw[hl] at o5;have HO:=hid o5;have hsl:=Ez o5;have hu:=CL s.sn V Q
 have hU:Hid (V+Q<=64*N):=hid (by
  have h1:=QN Q (show pl+1<=text.size+1 by omega);rw[QY,Q0] at h1
  rw[hV];exact QC h1 hN)
 have HM:=hid (And.intro hQ (And.intro hV hN));clear hQ hV hN;go_enter Tryz.func161,Tryz.ntmps161
 go_wp2;obtain⟨w1,hw1⟩:∃w1:World,w1=W.alloc (.cells (tf t.pc t.tk t.x).toArray 189):=⟨_,rfl⟩;have k1:Kp [] W w1:=by rw[hw1];exact Kp.alloc _ _ _
 have z1:w1.heap.size=W.heap.size+1:=by rw[hw1];simp
 have fT:Hid (∀j,w1.frozen? ⟨W.heap.size,j,none⟩=false):=hid (fun j=>by rw[hw1];simp);have rT:w1.rangeAt W.heap.size 0 (tf t.pc t.tk t.x):=by rw[hw1];exact eC W (tf t.pc t.tk t.x).toArray 189
 have e5:=(h.aj k1).c5;have ef5:=(h.aj k1).free 5;have HO1:=hid (dh o5 k1 (by simp));have HT:=hid (pF t.pc t.tk t.x);have hB1:=hid ((h.aj k1).kp.size);rw[<-hw1];clear hw1 h hcd ht hs o5;refine wp_region_noPanic ?_;refine az (fun w':World=>w'.cell? ⟨f,5,none⟩=some v5/\w'.rangeAt W.heap.size 0 (tf t.pc t.tk t.x)) 11 (by kernel_rfl) ?_;have hS:(fun w':World=>w'.cell? ⟨f,5,none⟩=some v5/\w'.rangeAt W.heap.size 0 (tf t.pc t.tk t.x)) w1.drew:=⟨e5,rT⟩;iterate 6(refine tkn (v:=?_) rfl (by kernel_rfl) (fun _ _ _ h=>h) ⟨rfl,fun w hSw=>?_⟩ hS ?_;rotate_left;(focus((try dsimp only at hSw);go_simp;(try with_reducible rfl)));(try simp only[Qt,Qs,Qr,Act.put,Qq,Qu,Qv]))
 refine aS (i:=6) (v:=.agg (tf t.pc t.tk t.x).toArray) rfl (by kernel_rfl) (by kernel_rfl) (by kernel_rfl) (by kernel_rfl) (fun _ _ _ h=>h) (Or.inl ⟨by rfl,?y6⟩) hS ?_
 case y6=>(intro U hw;have hq:=run_loadAt_mid (P:=Tryz.prog) U W.heap.size 0 189 (tf t.pc t.tk t.x) _ hw.2 Tryz.underlying189 rfl Tryz.jP;clear hw;simp only[execOp,Qt,Qs,Qr];show Sem.run Tryz.prog (Instr.loadAt 189 (.pointer (some ⟨W.heap.size,0,none⟩)) >>= fun u=>pure (Next.value u)) U=_;rw[Sem.run_bind,hq];rfl)
 simp only[Qt,Qs,Qr,Act.put,Qq,Qu,Qv];refine ai (i:=7) (by kernel_rfl) rfl (fun K hK=>?_);go_simp;refine hK.out _ _ (.inr ⟨aI e5 _,jg rT _⟩) ?_;clear hK K;refine ai (i:=8) (by kernel_rfl) rfl (fun K hK=>?_);refine fK (by rfl) (.tmp 10) (.tmp 12) 155 (by rfl) w.heap.size 189 ti _ 22 176 Tryz.underlying155 HI.out HZ.out.1 HZ.out.2.1 HZ.out.2.2 rfl (by decide) v5 0 [] (by rfl) (HO1.out.alloc _).drew ⟨W.heap.size+1,0,none⟩ 1 1 (tf t.pc t.tk t.x) (by rfl) rfl (gk w1 _ _ _ z1.symm) HT.out (by unfold maxLen;omega) (by omega) (QC hB1.out (by simp)) (by decide) ?_;intro g5 q5 w3 hown3 hgrow hor;have hf5:some f≠v5.ownBlock:=fun e=>(HF.out.x5 f e.symm).1 rfl;have htn:some W.heap.size≠v5.ownBlock:=Fo HO.out;have S3:(fun w':World=>w'.cell? ⟨f,5,none⟩=some v5/\w'.rangeAt W.heap.size 0 (tf t.pc t.tk t.x)) w3:=⟨aV hgrow hf5 (aI e5 _),im (jg rT _) hgrow htn⟩;refine hK.out _ _ (.inr S3) ?_;clear hK K;refine ai (i:=9) (by kernel_rfl) rfl (fun K hK=>?_)
 go_simp;refine hK.out _ _ (.inr S3) ?_;clear hK K;refine ai (i:=10) (by kernel_rfl) rfl (fun K hK=>?_);go_simp;refine hK.out _ _ (.inr S3) ?_;clear hK K;have c5':=S3.1;have f5':=(eI hgrow (p:=⟨f,5,none⟩) hf5 (World.block_lt_of_cell? _ _ (aI e5 _))).trans (nP e5 ef5 _);have HG:=hid (And.intro hown3 (And.intro hgrow hor));have R3:=hid S3.2;clear hown3 hgrow hor S3 hS ef5;refine ai (i:=11) (by kernel_rfl) rfl (fun K hK=>?_);go_simp;refine hK.out _ _ (.inl rfl) ?_;clear hK K;refine ax (by kernel_rfl) ?_ _;refine NoPanic.normal ?_;have ps:=rI (q:=5) e5 (Kp.refl [] w1) HO1.out HG.out.1 HG.out.2.1 HG.out.2.2 hf5 c5';obtain⟨g6,c6,p1,p2,p3,p4⟩:=ps;have fk:=HF.out.aj k1;have e6:g6=g5/\c6=q5:=by
  have:=(aw (w:=w3) (a:=⟨f,5,none⟩) (.slice (some ⟨g5,0,none⟩) 1 q5) c5').symm.trans p1;simp at this;exact⟨this.1.symm,this.2.symm⟩
 obtain⟨rfl,rfl⟩:=e6;have hl0:s.left.length=0:=by rw[hl];rfl
 have fs:=fk.push (t:=t) (g':=g6) (c':=c6) (W':=w3.setCell ⟨f,5,none⟩ (.slice (some ⟨g6,0,none⟩) (0+1) c6)) (by rw[hl0];exact p1) (by rw[hl0,hl];exact p2) p3 p4;have tb0:Tb Z w w1 f sb v3 v4 v5 W.heap.size t:=⟨⟨HF.out.kp.size,by have:=HF.out.flt;omega,by have:=HF.out.slt;omega,fun e=>by have:=(HF.out.o3.lt _ e).2;omega,fun e=>by have:=(HF.out.o4.lt _ e).2;omega,fun e=>htn e.symm,fun e he r=>by have:=lt_of_block (HF.out.fx e he).1;omega⟩,by omega,rT,fT.out⟩;have tb1:Tb Z w (w3.setCell ⟨f,5,none⟩ (.slice (some ⟨g6,0,none⟩) (0+1) c6)) f sb v3 v4 (.slice (some ⟨g6,0,none⟩) (s.left.length+1) c6) W.heap.size t:=by
  refine tb0.stay (p4.block _ tb0.lt tb0.far.nf htn) p4.size tb0.far.n4 (fun e=>?_);have e:g6=W.heap.size:=by simpa[Value.ownBlock] using e
  rcases p3 with r|r
  .exact htn (by rw[r,e])
  .omega
 have FS:=hid (And.intro fs tb1);generalize w3.setCell ⟨f,5,none⟩ (.slice (some ⟨g6,0,none⟩) (0+1) c6)=U0 at *;generalize W.heap.size=T at *;clear fs tb1 tb0 fk p1 p2 p3 p4 c5' f5' HG R3 e5 rT hf5 htn hsl HO1 HO hB1 fT k1 z1;go_wp2;go_loopw [4] (fun _ wr=>∃a4 a5 sc,Fg Z w wr f p sb N pl text here v3 a4 a5 sc/\(∃t',Tb Z w wr f sb v3 a4 a5 T t')/\OkM n D sc/\sc.ahead.length+sc.left.length+uns sc.sn V Q<=s.ahead.length+1+uns s.sn V Q/\(sc.left.length=0->sc.ahead.length+uns sc.sn V Q<=s.ahead.length+uns s.sn V Q)/\Hid (∀s',jJ cd n D text pl none sc s'->jJ cd n D text pl (some t) s s')) (fun _ wr=>2*LU wr sb V Q+JM wr f)
 case atStart=>
  refine⟨v4,_,_,FS.out.1,⟨t,FS.out.2⟩,⟨HOK.out.2.ahead,fun u hu=>?_⟩,?_,fun h0=>?_,hid (fun s' gs=>?_)⟩
  .have hu':u=t:=by simpa[hl] using hu
   rw[hu'];exact HOK.out.1
  .simp[hl]
  .simp[hl] at h0
  .have:=zh (l:=[]) (t:=t) (by simp[hl]) gs;have e:({ s with left:=[]}:Mc)=s:=by cases s;simp at hl;subst hl;rfl
   rw[<-e];exact this
 case round=>
  obtain⟨a4,a5,sc,fg,⟨t',tb⟩,okc,bd,bd2,back⟩:=hrel;have FG:=hid fg;have TB:=hid tb;have OKC:=hid okc;rcases RY sc.left with hnil|⟨l,tl,hcons⟩
  .have o5:=fg.o5;rw[hnil] at o5;have c5:=fg.c5;rcases dw o5 with⟨e5,_⟩|⟨gg,cc,e5⟩
   all_goals
    rw[e5] at c5;clear fg tb okc FS o5;go_wp2_with fail;go_end0;exact⟨rfl,a4,a5,sc,FG.out,hnil,OKC.out,bd2 (by rw[hnil];rfl),back.out _ (J0 hnil)⟩
  .rw[RZ] at hcons;have o5:=fg.o5;rw[hcons,iR,Qy,QP] at o5;rcases dw o5 with⟨_,e5⟩|⟨g5,q5,e5⟩
   .omega
   .subst e5;obtain⟨L,hL⟩:∃L,l.length=L:=⟨_,rfl⟩
    have RG:Hid (wr.rangeAt g5 (L*22) (tf tl.pc tl.tk tl.x)):=hid (fun j v hv=>by
     have:=rN o5 (L*22+j) v (by rw[QU (by rw[xf,hL];omega),xf,hL,Sw];exact hv)
     rwa [QH] at this)
    have TT:Hid (wr.there T 0 22):=hid (fun j hj=>by
     have hr:=tb.cells j ((tf t'.pc t'.tk t'.x)[j]'hj) (QA hj)
     exact⟨by rw[hr];rfl,tb.free _⟩)
    have HT2:=hid (pF tl.pc tl.tk tl.x);obtain⟨M,hM⟩:∃M,M=L+1:=⟨_,rfl⟩;have c5:=fg.c5;rw[hL,<-hM] at c5;have f5:=fg.free 5;have hcap:=ID o5;have hLM:L<M:=by omega
    have hM0:0<M:=by omega
    have hLq:L<=q5:=by omega
    have eM:(M:Int)-1=(L:Int):=by omega
    have wL:=aa L (by
     have:=bd;rw[hcons,Qy,QP] at this
     omega)
    obtain⟨w5,hw5⟩:∃w5:World,wr.setCells T 0 (tf tl.pc tl.tk tl.x).toArray.toList=w5:=⟨_,rfl⟩;have x5:w5.cell? ⟨f,5,none⟩=some (.slice (some ⟨g5,0,none⟩) M q5):=by
     rw[<-hw5,World.cell?_setCells_out _ _ _ _ _ (fun e _=>absurd e (Ne.symm tb.far.nf))];exact c5
    have y5:w5.frozen? ⟨f,5,none⟩=false:=by rw[<-hw5,World.frozen?_setCells];exact f5
    have H5:=hid hw5;clear hw5 FS fg tb okc;have O5:=hid o5;clear o5;go_wp2_with (first|(refine wpList_load_mid rfl 189 (.tmp 33) rfl g5 (L*22) rfl (tf tl.pc tl.tk tl.x) _ RG.out Tryz.underlying189 rfl Tryz.jP ?_)|(refine wpList_store_mid rfl 189 (.tmp 3) (.tmp 34) rfl T 0 (tf tl.pc tl.tk tl.x).toArray rfl rfl TT.out Tryz.jP (all_oneCell_toArray HT2.out) ?_;rw[H5.out]))
    have k5:Kp [T] wr w5:=by rw[<-H5.out];exact Kp.setCells (by simp) _ _ _
    have fg5:=FG.out.other k5 (fun T' e=>by rw[List.mem_singleton.1 e];exact TB.out.far);have tb5:Tb Z w w5 f sb v3 a4 (.slice (some ⟨g5,0,none⟩) (l.length+1) q5) T tl:=⟨TB.out.far,Qx TB.out.lt k5.size,by rw[<-H5.out];exact World.rangeAt_setCells_same wr T 0 (tf tl.pc tl.tk tl.x) TT.out,fun i=>by rw[<-H5.out,World.frozen?_setCells];exact TB.out.free i⟩;have fg6:=fg5.pop hcons;have tb6:Tb Z w (w5.setCell ⟨f,5,none⟩ (.slice (some ⟨g5,0,none⟩) l.length q5)) f sb v3 a4 (.slice (some ⟨g5,0,none⟩) l.length q5) T tl:=tb5.stay (Below.heap_setCell _ _ _ _ tb5.far.nf) (by simp[World.setCell]) tb5.far.n4 tb5.far.n5;rw[hL] at fg6 tb6;have FG6:=hid (And.intro fg6 tb6);have eM0:=FG.out.uns V Q hU.out;have eL0:=FG.out.left;obtain⟨M0,hM0'⟩:∃M0,M0=2*LU wr sb V Q+JM wr f:=⟨_,rfl⟩;generalize w5.setCell ⟨f,5,none⟩ (.slice (some ⟨g5,0,none⟩) L q5)=w6 at *;clear fg5 tb5 fg6 tb6 k5 x5 y5 c5 f5 RG TT HT2 H5 O5
    have okl:okT n D tl:=OKC.out.left tl (by rw[hcons];simp);go_loopw [49] (fun _ wl=>∃a4 a5 si tc,Fg Z w wl f p sb N pl text here v3 a4 a5 si/\Tb Z w wl f sb v3 a4 a5 T tc/\okT n D tc/\OkM n D si/\si.ahead.length+si.left.length+1+uns si.sn V Q<=s.ahead.length+1+uns s.sn V Q/\2*uns si.sn V Q+si.left.length<M0/\Hid (∀s',jJ cd n D text pl (some tc) si s'->jJ cd n D text pl (some t) s s')) (fun _ wl=>LU wl sb V Q)
    case atStart=>
     refine⟨a4,_,_,tl,FG6.out.1,FG6.out.2,okl,⟨OKC.out.ahead,fun u hu=>OKC.out.left u (by rw[hcons];exact Sj _ hu)⟩,?_,?_,hid (fun s' gs=>back.out s' (Od hcons gs))⟩
     .rw[hcons,Qy,QP] at bd;show sc.ahead.length+l.length+1+uns sc.sn V Q<=_;omega
     .show 2*uns sc.sn V Q+l.length<M0;rw[hM0',eM0,eL0,hcons,Qy,QP];omega
    case round=>
     obtain⟨b4,b5,si,tc,fi,tbi,okc',oki,bdi,msi,backi⟩:=hrel;have FI:=hid (And.intro fi tbi);have OKI:=hid (And.intro okc' oki);clear fi tbi okc' oki FG6 FG TB;go_wp2_with fail;refine(Kf FI.out.1 FI.out.2 HCD.out OKI.out.1.1 OKI.out.1.2 (by rw[<-HM.out.1];exact HM.out.2.2) hNb hpl).mono ?_;rintro e W1 (⟨hsn,rfl,fg1,tb1⟩|⟨hsn,rfl,fg1,tb1⟩)
     .have F1:=hid (And.intro fg1 tb1);clear fg1 tb1;go_wp2_with fail;refine⟨⟨b4,b5,si,F1.out.1,⟨_,F1.out.2⟩,OKI.out.2,by omega,fun h0=>by omega,hid (fun s' gs=>backi.out s' (JZ hsn gs))⟩,?_⟩;rw[F1.out.1.uns V Q hU.out,F1.out.1.left,<-hM0'];exact msi
     .have F1:=hid (And.intro fg1 tb1);clear fg1 tb1;have hum:=Mh OKI.out.1 HM.out.1 HM.out.2.1 hsn;have okm:OkM n D { si with sn:=more si.sn (seenAt n D pl tc)}:=⟨OKI.out.2.ahead,OKI.out.2.left⟩;obtain⟨sf1,sf2,sf3,sf4⟩:=pL (text:=text) (pl:=pl) HCD.out.ok OKI.out.1 okm;have hback:=hid (fun s' gs=>backi.out s' (JY hsn gs));have SF:=hid (And.intro sf3 sf4);have huI:=FI.out.1.uns V Q hU.out;have sfl:=Eu (cd:=cd) (text:=text) (pl:=pl) (t:=tc) (s:={ si with sn:=more si.sn (seenAt n D pl tc)});clear okm sf3 sf4;go_wp2_with fail;refine(Mt F1.out.1 F1.out.2 HCD.out OKI.out.1.1 (show si.ahead.length<=100000 by omega) (show si.left.length<=100000 by omega)).mono ?_;rintro e W2 ⟨rfl,dn⟩;generalize aM cd text pl tc { si with sn:=more si.sn (seenAt n D pl tc)}=r at *;obtain⟨d4,d5,fg2,tc2,tb2,htc⟩:=dn;have F2:=hid (And.intro fg2 (And.intro tb2 htc));clear fg2 tb2 htc;obtain⟨o,s2⟩:=r;have sf1':s2.sn=more si.sn (seenAt n D pl tc):=sf1
      have sf2':s2.ahead.length+s2.left.length<=si.ahead.length+si.left.length+1:=sf2;have sfl':s2.left.length<=si.left.length+1:=sfl
      cases o with
      | none=>
       go_wp2_with fail;refine⟨⟨d4,d5,s2,F2.out.1,⟨_,F2.out.2.1⟩,SF.out.1,?_,fun h0=>?_,hback⟩,?_⟩
       .rw[sf1'];omega
       .have h0':s2.left.length=0:=h0;rw[sf1'];omega
       .have a1:=F2.out.1.uns V Q hU.out;have a2:=F2.out.1.left;have a1':LU W2 sb V Q=uns s2.sn V Q:=a1;have a2':JM W2 f=s2.left.length:=a2;rw[a1',a2',sf1',<-hM0'];omega
      | some u=>
       go_wp2_with fail;refine⟨⟨d4,d5,s2,u,F2.out.1,?_,SF.out.2 u rfl,SF.out.1,?_,?_,hback⟩,?_⟩
       .have:=F2.out.2.2 u rfl;rw[<-this];exact F2.out.2.1
       .rw[sf1'];omega
       .rw[sf1'];omega
       .have a1:LU W2 sb V Q=uns s2.sn V Q:=F2.out.1.uns V Q hU.out;rw[a1,huI,sf1'];omega
variable {Z:List (Nat×Obj)}
def jr(cd:Nat->In)(n D:Nat)(text:ByteArray)(pl:Nat):List Thr->Mc->Mc->Prop
 | [],s,s'=>s'=s
 | t::l,s,s'=>(s.fd=true/\s.fc 0<t.x 0/\s'=s)\/(¬(s.fd=true/\s.fc 0<t.x 0)/\∃s1,jJ cd n D text pl (some t) s s1/\jr cd n D text pl l s1 s')
theorem DR:∀(l:List Thr) (k:Nat) (t:Thr),l[k]? = some t->∀j,j<22->(flat l)[k*22+j]? = (tf t.pc t.tk t.x)[j]?
 | h::l,0,t,e,j,hj=>by
  have e':h=t:=by simpa using e
  subst e';show(tf h.pc h.tk h.x++flat l)[0*22+j]? = _;rw[Sb,QH,Q5 hj]
 | h::l,k+1,t,e,j,hj=>by
  have e':l[k]? = some t:=by simpa using e
  show(tf h.pc h.tk h.x++flat l)[(k+1)*22+j]? = _;rw[QU (by show 22<=_;omega)];have:=DR l k t e' j hj
  rwa [show(k+1)*22+j-(tf h.pc h.tk h.x).length=k*22+j by show(k+1)*22+j-22=_;omega]
section
variable {w W W':World}{f p g c n D sb N Q V pl gh ch:Nat}{text:ByteArray}{here:List Thr}{v3 v4 v5:Value}{s:Mc}{cd:Nat->In}{t:Thr}
theorem Fg.swap(h:Fg Z w W f p sb N pl text here (.slice (some ⟨gh,0,none⟩) here.length ch) v4 v5 s)(q:LH f v4 (.slice (some ⟨gh,0,none⟩) 0 ch) W W'):Fg Z w W' f p sb N pl text s.ahead v4 (.slice (some ⟨gh,0,none⟩) 0 ch) v5 { s with ahead:=[]}:=by
 have cf:=q.cell;have ob:∀k,k<W.heap.size->k≠f->W'.heap[k]? = W.heap[k]?:=fun k hk hkf=>q.kept.block k hk (by simpa using hkf);have x3:=h.x3 gh rfl
 refine⟨Kp.own (x:=f) ((h.kp.mono (by simp)).trans q.kept) h.flo,h.flo,h.slo,h.ne,(cf _ (by omega) (by omega)).trans h.c0,(cf _ (by omega) (by omega)).trans h.c1,(cf _ (by omega) (by omega)).trans h.c2,q.c3,q.c4,(cf _ (by omega) (by omega)).trans h.c5,(cf _ (by omega) (by omega)).trans h.c6,(cf _ (by omega) (by omega)).trans h.c7,fun j u hu=>(cf _ (by omega) (by omega)).trans (h.fc j u hu),fun i=>(q.free i).trans (h.free i),Qx h.slt q.kept.size,fun i hi=>?_,
  au h.o4 (fun k hk hl=>ob k hl (h.x4 k hk).1),au (uH h.o3) (fun k hk hl=>ob k hl ?_),au h.o5 (fun k hk hl=>ob k hl (h.x5 k hk).1),fun k hk=>?_,fun k hk=>?_,h.x5,fun e he=>⟨(ob e.1 (lt_of_block (h.fx e he).1) (h.fx e he).2.1).trans (h.fx e he).1,(h.fx e he).2.1,(h.fx e he).2.2.1,(h.fx e he).2.2.2.2.1,(h.fx e he).2.2.2.1,(h.fx e he).2.2.2.2.2⟩⟩
 .have r:=h.seen i hi;have e:=ob sb h.slt h.ne;exact⟨(World.cell?_of_block (w:=W) e).trans r.1,(World.frozen?_of_block (w:=W) e).trans r.2⟩
 .have e:k=gh:=by simpa[Value.ownBlock] using hk.symm
  rw[e];exact x3.1
 .have r:=h.x4 k hk;refine⟨r.1,r.2.1,fun e=>?_,r.2.2⟩;have e:k=gh:=by simpa[Value.ownBlock] using e.symm
  subst e;exact x3.2.2.1 hk
 .have e:k=gh:=by simpa[Value.ownBlock] using hk.symm
  subst e;exact⟨x3.1,x3.2.1,x3.2.2.2⟩
theorem DP(h:Fg Z w W f p sb N pl text here v3 v4 v5 s)(hne:here≠[])(hl:s.left=[])(hcd:Cd w p g c n D cd)(hh:∀u∈here,okT n D u)(hs:OkM n D s)(hQ:Q=n*(D+1))(hV:V=pl*Q)(hN:(text.size+1)*Q<=64*N)(hNb:N<=1000000)(hb:Q<=10000)(hpl:pl<=text.size)(hA:s.ahead.length<=100)(hH:here.length<=10000):Calls Tryz.prog 133 #[.pointer (some ⟨f,0,none⟩)] W fun e W'=>e=.returned (.tuple #[]) /\ ∃a4 b4 a5 s',Fg Z w W' f p sb N pl text s'.ahead a4 b4 a5 { s' with ahead:=[]}/\s'.left=[]/\OkM n D s'/\s'.ahead.length<=s.ahead.length+Q/\jr cd n D text pl here s s':=by
 rcases dw h.o3 with⟨_,e⟩|⟨gh,ch,e3⟩
 .exact absurd (List.length_eq_zero_iff.1 e) hne
 subst e3;have HF:=hid h;have HCD:=hid hcd;have HH:=hid hh;have HOK:=hid hs;have hu:=CL s.sn V Q;have HM:=hid (And.intro hQ (And.intro hV hN));clear hQ hV hN;have c3:=h.c3;have hcap:=ID h.o3;obtain⟨L,hL⟩:∃L,here.length=L:=⟨_,rfl⟩;rw[hL] at c3;have hL2:L<=10000:=by omega
 have hLc:L<=ch:=by omega
 clear h hcd hh hs;go_enter Tryz.func133,Tryz.ntmps133
 go_wp2;go_loopw [8] (fun v wr=>∃k:Nat,k<=L/\v=.int .i64 k/\∃a4 a5 sk,Fg Z w wr f p sb N pl text here (.slice (some ⟨gh,0,none⟩) here.length ch) a4 a5 sk/\sk.left=[]/\OkM n D sk/\sk.ahead.length+uns sk.sn V Q<=s.ahead.length+uns s.sn V Q/\Hid (∀s',jr cd n D text pl (here.drop k) sk s'->jr cd n D text pl here s s')) (fun v _=>L-(intOf v).toNat)
 case atStart=>exact⟨0,by omega,rfl,v4,v5,s,HF.out,hl,HOK.out,by omega,hid (fun s' q=>q)⟩
 case round=>
  obtain⟨k,hk,rfl,a4,a5,sk,fg,lk,okk,bd,back⟩:=hrel;have FG:=hid fg;have OKK:=hid okk;have d3:=fg.c3;rw[hL] at d3;have d4:=fg.c4;have d7:=fg.c7;have f3:=fg.free 3;have f4:=fg.free 4;obtain⟨ao,an,ac,e4⟩:=MC fg.o4;by_cases hlt:k<L
  .obtain⟨t,et⟩:∃t,here[k]? = some t:=⟨here[k]'(by omega),QA (by omega)⟩;have hd:here.drop k=t::here.drop (k+1):=by
    have hk':k<here.length:=by omega
    rw[QW hk'];rw[QA hk'] at et;rw[Option.some.inj et]
   have hmem:t∈here:=QM et;have r3:=rN fg.o3
   have RG:Hid (wr.rangeAt gh (k*22) (tf t.pc t.tk t.x)):=hid (fun j v hv=>by
    have hj:j<22:=(List.getElem?_eq_some_iff.1 hv).1;have:=r3 (k*22+j) v (by rw[DR here k t et j hj];exact hv)
    rwa [QH] at this)
   have dn:wr.cell? ⟨gh,k*22+2,none⟩=some (.int .i64 (t.x 0)):=RG.out 2 _ rfl;have db:wr.cell? ⟨f,8,none⟩=some (.int .i64 (sk.fc 0)):=fg.fc 0 _ rfl;subst e4;clear fg okk;by_cases hcut:sk.fd=true/\sk.fc 0<t.x 0
   .obtain⟨hfd,hx⟩:=hcut;rw[hfd] at d7;go_wp2_with fail;go_quiet (fail);go_wp2_with fail;go_region
    all_goals go_wp2
    all_goals go_end0
    all_goals
     have sw:=rH (v:=.slice ao an ac) (u:=.slice (some ⟨gh,0,none⟩) 0 ch) (w:=wr.drewN nq) d3 d4;refine⟨rfl,_,_,a5,sk,(FG.out.aj (Kp.drewN [] wr nq)).swap sw,lk,OKK.out,by omega,back.out sk ?_⟩;rw[hd];exact .inl ⟨hfd,hx,rfl⟩
   .cases hfd:sk.fd with
    | false=>
     rw[hfd] at d7;go_wp2_with fail;go_quiet (fail);have kq:=Kp.drewN [] wr nq;have RQ:=hid (gJ RG.out kq (by simp));have FQ:=hid (FG.out.aj kq);have q3:(wr.drewN nq).cell? ⟨f,3,none⟩=some (.slice (some ⟨gh,0,none⟩) L ch):=d3;generalize wr.drewN nq=w1 at *;clear d3 d4 d7 f3 f4 dn db r3;go_wp2_with (first|(refine wpList_load_mid rfl 189 (.tmp 38) rfl gh (k*22) rfl (tf t.pc t.tk t.x) _ RQ.out Tryz.underlying189 rfl Tryz.jP ?_)|fail)
     refine(tq FQ.out lk HCD.out (HH.out t hmem) OKK.out HM.out.1 HM.out.2.1 HM.out.2.2 hNb (by omega) hpl (by omega)).mono ?_;rintro e w2 ⟨rfl,b4,b5,s2,fg2,l2,ok2,bd2,goes⟩;have F2:=hid (And.intro fg2 (And.intro ok2 goes));clear fg2 ok2 goes q3;go_wp2_with fail;exact⟨⟨k+1,by omega,by go_num,b4,b5,s2,F2.out.1,l2,F2.out.2.1,by omega,hid (fun s' q=>back.out s' (by rw[hd];exact .inr ⟨hcut,s2,F2.out.2.2,q⟩))⟩,by simp[intOf];omega⟩
    | true=>
     rw[hfd] at d7;have hx:¬sk.fc 0<t.x 0:=fun q=>hcut ⟨hfd,q⟩;go_wp2_with fail;go_quiet (fail);have kq:=Kp.drewN [] wr nq;have RQ:=hid (gJ RG.out kq (by simp));have FQ:=hid (FG.out.aj kq);have q3:(wr.drewN nq).cell? ⟨f,3,none⟩=some (.slice (some ⟨gh,0,none⟩) L ch):=d3;generalize wr.drewN nq=w1 at *;clear d3 d4 d7 f3 f4 dn db r3;go_wp2_with (first|(refine wpList_load_mid rfl 189 (.tmp 38) rfl gh (k*22) rfl (tf t.pc t.tk t.x) _ RQ.out Tryz.underlying189 rfl Tryz.jP ?_)|fail)
     refine(tq FQ.out lk HCD.out (HH.out t hmem) OKK.out HM.out.1 HM.out.2.1 HM.out.2.2 hNb (by omega) hpl (by omega)).mono ?_;rintro e w2 ⟨rfl,b4,b5,s2,fg2,l2,ok2,bd2,goes⟩;have F2:=hid (And.intro fg2 (And.intro ok2 goes));clear fg2 ok2 goes q3;go_wp2_with fail;exact⟨⟨k+1,by omega,by go_num,b4,b5,s2,F2.out.1,l2,F2.out.2.1,by omega,hid (fun s' q=>back.out s' (by rw[hd];exact .inr ⟨hcut,s2,F2.out.2.2,q⟩))⟩,by simp[intOf];omega⟩
  .subst e4;clear fg okk;have hkL:k=L:=by omega
   go_wp2_with fail;go_region
   all_goals go_wp2
   all_goals go_end0
   all_goals
    have sw:=rH (v:=.slice ao an ac) (u:=.slice (some ⟨gh,0,none⟩) 0 ch) (w:=wr) d3 d4;refine⟨rfl,_,_,a5,sk,(FG.out).swap sw,lk,OKK.out,by omega,back.out sk ?_⟩;rw[RP (by omega)];exact rfl
end
variable {Z:List (Nat×Obj)}
abbrev z28:Array Value:=#[.pointer none,.string ⟨#[]⟩,.int .i64 0,.slice none 0 0,.slice none 0 0,.slice none 0 0,.slice none 0 0,.bool false,.int .i64 0,.int .i64 0,.int .i64 0,.int .i64 0,.int .i64 0,.int .i64 0,.int .i64 0,.int .i64 0,.int .i64 0,.int .i64 0,.int .i64 0,.int .i64 0,.int .i64 0,.int .i64 0,.int .i64 0,.int .i64 0,.int .i64 0,.int .i64 0,.int .i64 0,.int .i64 0]
abbrev iH(p:Nat)(text:ByteArray)(sb N:Nat):List Value:=[.pointer (some ⟨p,0,none⟩),.string text,.int .i64 0,.slice none 0 0,.slice none 0 0,.slice none 0 0,.slice (some ⟨sb,0,none⟩) N N,.bool false,.int .i64 0,.int .i64 0,.int .i64 0,.int .i64 0,.int .i64 0,.int .i64 0,.int .i64 0,.int .i64 0,.int .i64 0,.int .i64 0,.int .i64 0,.int .i64 0,.int .i64 0,.int .i64 0,.int .i64 0,.int .i64 0,.int .i64 0,.int .i64 0,.int .i64 0,.int .i64 0]
theorem lA(p:Nat)(text:ByteArray)(sb N:Nat):∀u∈iH p text sb N,u.oneCell'=true:=by
 intro u hu;simp only[iH,Rh,Sd,or_false] at hu;rcases hu with h|h|h|h|h|h|h|h|h|h|h|h|h|h|h|h|h|h|h|h|h|h|h|h|h|h|h|h<;>subst h<;>rfl
theorem Tryz.Mr:(Tryz.prog.info? 159).map (·.size)=some 28:=by kernel_rfl
theorem Tryz.infoU:(Tryz.prog.info? 148).map (fun i=>(i.zero,i.size,i.bytes))=some (some (.int .u64 0),1,8):=by kernel_rfl
def zs(N:Nat):Array Value:=madeCells #[.int .u64 0] N
theorem ru(N i:Nat)(h:i<N):(zs N).toList[i]? = some (.int .u64 0):=by
 unfold zs;rw[toList_madeCells_one,Rj,QB h]
theorem ta(w:World)(N:Nat)(h:N<=1000000):(Instr.makeSlice 154 (.int .i64 (N:Int)) (.int .i64 (N:Int))).run Tryz.prog w=.ok (.slice (some ⟨w.heap.size,0,none⟩) N N) (w.alloc (.cells (zs N) 148)):=by
 obtain⟨i,hi,hz0,hz1,hz2⟩:=info_parts Tryz.infoU;have:=run_makeSlice (P:=Tryz.prog) w 154 148 i (.int .u64 0) (by kernel_rfl) hi hz0 .i64 .i64 N N (by omega) (by omega) (by rw[hz1];omega) (by rw[hz2];omega) (by omega);rw[hz1] at this;simpa[zs,Value.cells] using this
theorem Ps(W:World):((W.alloc (.cells z28 159)).drew).there W.heap.size 0 28:=fun j hj=>by
 rw[QH];have h:=eC W z28 159 j (z28.toList[j]'hj) (QA hj);rw[QH] at h;refine⟨?_,?_⟩
 .show((W.alloc (.cells z28 159)).cell? _).isSome=true;rw[h];rfl
 .show(W.alloc (.cells z28 159)).frozen? _=false;simp
theorem oI{w:World}{b k n:Nat}(h:(w.drew).there b k n)(o:Obj):((w.alloc o).drew).there b k n:=fun j hj=>by
 have q:=h j hj;obtain⟨u,hu⟩:=Option.isSome_iff_exists.1 q.1;have hlt:=World.block_lt_of_cell? _ _ (show w.cell? ⟨b,k+j,none⟩=some u from hu);refine⟨?_,?_⟩
 .rw[aI (w:=w) hu o];rfl
 .exact((Kp.alloc [] w o).frozen hlt (by simp)).trans q.2
theorem fH{w:World}{a:Addr}{v:Value}(h:w.cell? a=some v)(o:Obj):(w.alloc o).cell? a=some v:=
 ((Kp.alloc [] w o).cell (World.block_lt_of_cell? _ _ h) (by simp)).trans h
theorem Ny(W:World)(l:List Value)(t:TypeId)(a:Nat)(ha:a=W.heap.size):∀j u,l[j]? = some u->(W.alloc (.cells l.toArray t)).cell? ((⟨a,0,none⟩:Addr).add j)=some u:=gk W l t a ha
theorem addr_add(b o j:Nat):(⟨b,o,none⟩:Addr).add j=⟨b,o+j,none⟩:=by
 unfold Addr.add;split<;>simp_all
def pV(w:World)(f:Nat):Nat:=match w.cell? ⟨f,2,none⟩ with
 | some (.int _ v)=>v.toNat
 | _=>0
def mc0:Mc:=⟨[],[],dq,false,fun _=>0⟩
def oW(cd:Nat->In)(n D:Nat)(text:ByteArray)(bg:Nat):Nat->Nat->List Thr->Mc->Mc->Prop
 | 0,_,_,s,s'=>s'=s
 | k+1,pl,here,s,s'=>((if s.fd=true then here else here++[⟨bg,0,nz pl⟩])=[]/\s'=s) \/
   ((if s.fd=true then here else here++[⟨bg,0,nz pl⟩])≠[]/\∃s1,jr cd n D text pl (if s.fd=true then here else here++[⟨bg,0,nz pl⟩]) s s1/\oW cd n D text bg k (pl+1) s1.ahead { s1 with ahead:=[]} s')
section
variable {w W W':World}{f p g c n D sb N pl:Nat}{text:ByteArray}{here:List Thr}{v3 v4 v5:Value}{s:Mc}{cd:Nat->In}{t:Thr}
theorem DX{W0:World}(kp:Kp [] w W0)(flo:w.heap.size<=f)(slo:w.heap.size<=sb)(ne:sb≠f)(hth:W0.there f 0 28)(hfr:∀i,W0.frozen? ⟨f,i,none⟩=false)(slt:sb<W0.heap.size)(hs:∀i,i<N->W0.cell? ⟨sb,i,none⟩=some (.int .u64 0)/\W0.frozen? ⟨sb,i,none⟩=false)(hz:∀e∈Z,W0.heap[e.1]? = some e.2/\e.1≠f/\e.1≠sb):Fg Z w (W0.setCells f 0 (iH p text sb N).toArray.toList) f p sb N 0 text [] (.slice none 0 0) (.slice none 0 0) (.slice none 0 0) mc0:=by
 have hr:=World.rangeAt_setCells_same W0 f 0 (iH p text sb N) hth;have k:=Kp.setCells (S:=[f]) (b:=f) (by simp) (iH p text sb N).toArray.toList 0 W0;refine⟨Kp.own (x:=f) ((kp.mono (by simp)).trans k) flo,flo,slo,ne,hr 0 _ rfl,hr 1 _ rfl,hr 2 _ rfl,hr 3 _ rfl,hr 4 _ rfl,hr 5 _ rfl,hr 6 _ rfl,hr 7 _ rfl,fun j u hu=>?_,fun i=>?_,Qx slt k.size,fun i hi=>?_,World.ownsRow_nil _ _ _ _,World.ownsRow_nil _ _ _ _,World.ownsRow_nil _ _ _ _,fun k hk=>(by cases hk),fun k hk=>(by cases hk),fun k hk=>(by cases hk),fun e he=>⟨(k.block e.1 (lt_of_block (hz e he).1) (by simpa using(hz e he).2.1)).trans (hz e he).1,(hz e he).2.1,(hz e he).2.2,fun q=>(by cases q),fun q=>(by cases q),fun q=>(by cases q)⟩⟩
 .have hj:j<20:=(List.getElem?_eq_some_iff.1 hu).1
  have e:=hr (8+j) u (by
   show(iH p text sb N)[8+j]? = some u;rw[<-hu,oc _ j hj]
   match j,hj with
   | 0,_|1,_|2,_|3,_|4,_|5,_|6,_|7,_|8,_|9,_|10,_|11,_|12,_|13,_|14,_|15,_|16,_|17,_|18,_|19,_=>rfl
   | n+20,h=>exact absurd h (by omega))
  rwa [QH] at e
 .rw[World.frozen?_setCells];exact hfr i
 .have hn:sb∉[f]:=by simpa using ne
  refine⟨?_,(k.frozen (p:=⟨sb,i,none⟩) slt hn).trans (hs i hi).2⟩;show _=some (Value.int .u64 (wd dq i:Int));rw[pd];exact(k.cell (p:=⟨sb,i,none⟩) slt hn).trans (hs i hi).1
theorem Fg.place(h:Fg Z w W f p sb N pl text here v3 v4 v5 s)(q:Nat):Fg Z w (W.setCell ⟨f,2,none⟩ (.int .i64 (q:Int))) f p sb N q text here v3 v4 v5 s:=by
 have k:Kp [f] W (W.setCell ⟨f,2,none⟩ (.int .i64 (q:Int))):=Kp.setCell _ _ (by simp);have cf:∀i,i≠2->(W.setCell ⟨f,2,none⟩ (.int .i64 (q:Int))).cell? ⟨f,i,none⟩=W.cell? ⟨f,i,none⟩:=fun i hi=>aq _ (fun e=>by injection e with _ e2 _;exact hi e2.symm);have ob:∀k',k'≠f->(W.setCell ⟨f,2,none⟩ (.int .i64 (q:Int))).heap[k']? = W.heap[k']?:=fun k' hk=>Below.heap_setCell _ _ _ _ hk;have fz:∀a,(W.setCell ⟨f,2,none⟩ (.int .i64 (q:Int))).frozen? a=W.frozen? a:=fun a=>by simp
 refine⟨Kp.own (x:=f) ((h.kp.mono (by simp)).trans k) h.flo,h.flo,h.slo,h.ne,(cf _ (by omega)).trans h.c0,(cf _ (by omega)).trans h.c1,aw _ h.c2,(cf _ (by omega)).trans h.c3,(cf _ (by omega)).trans h.c4,(cf _ (by omega)).trans h.c5,(cf _ (by omega)).trans h.c6,(cf _ (by omega)).trans h.c7,fun j u hu=>(cf _ (by omega)).trans (h.fc j u hu),fun i=>(fz _).trans (h.free i),Qx h.slt k.size,fun i hi=>?_,
  au h.o3 (fun k' hk _=>ob k' (h.x3 k' hk).1),au h.o4 (fun k' hk _=>ob k' (h.x4 k' hk).1),au h.o5 (fun k' hk _=>ob k' (h.x5 k' hk).1),h.x3,h.x4,h.x5,fun e he=>⟨(ob e.1 (h.fx e he).2.1).trans (h.fx e he).1,(h.fx e he).2⟩⟩
 have q:=h.seen i hi;exact⟨(World.cell?_of_block (w:=W) (ob sb h.ne)).trans q.1,(fz _).trans q.2⟩
theorem Fg.Ax(h:Fg Z w W f p sb N pl text here v3 v4 v5 s):Fg Z w (W.setCell ⟨f,7,none⟩ (.bool false)) f p sb N pl text here v3 v4 v5 { s with fd:=false}:=by
 have k:Kp [f] W (W.setCell ⟨f,7,none⟩ (.bool false)):=Kp.setCell _ _ (by simp);have cf:∀i,i≠7->(W.setCell ⟨f,7,none⟩ (.bool false)).cell? ⟨f,i,none⟩=W.cell? ⟨f,i,none⟩:=fun i hi=>aq _ (fun e=>by injection e with _ e2 _;exact hi e2.symm);have ob:∀k',k'≠f->(W.setCell ⟨f,7,none⟩ (.bool false)).heap[k']? = W.heap[k']?:=fun k' hk=>Below.heap_setCell _ _ _ _ hk;have fz:∀a,(W.setCell ⟨f,7,none⟩ (.bool false)).frozen? a=W.frozen? a:=fun a=>by simp
 refine⟨Kp.own (x:=f) ((h.kp.mono (by simp)).trans k) h.flo,h.flo,h.slo,h.ne,(cf _ (by omega)).trans h.c0,(cf _ (by omega)).trans h.c1,(cf _ (by omega)).trans h.c2,(cf _ (by omega)).trans h.c3,(cf _ (by omega)).trans h.c4,(cf _ (by omega)).trans h.c5,(cf _ (by omega)).trans h.c6,aw _ h.c7,fun j u hu=>(cf _ (by omega)).trans (h.fc j u hu),fun i=>(fz _).trans (h.free i),Qx h.slt k.size,fun i hi=>?_,
  au h.o3 (fun k' hk _=>ob k' (h.x3 k' hk).1),au h.o4 (fun k' hk _=>ob k' (h.x4 k' hk).1),au h.o5 (fun k' hk _=>ob k' (h.x5 k' hk).1),h.x3,h.x4,h.x5,fun e he=>⟨(ob e.1 (h.fx e he).2.1).trans (h.fx e he).1,(h.fx e he).2⟩⟩
 have q:=h.seen i hi;exact⟨(World.cell?_of_block (w:=W) (ob sb h.ne)).trans q.1,(fz _).trans q.2⟩
theorem Fg.begun{w1 w2:World}{gh ch:Nat}(h:Fg Z w W f p sb N pl text here v3 v4 v5 s)(k1:Kp [] W w1)(hg:w1.grownBy w2 v3.ownBlock)(own:w2.ownsRow w.heap.size 189 22 (.slice (some ⟨gh,0,none⟩) (here.length+1) ch) (here.length+1) (flat here++tf t.pc t.tk t.x))(hor:v3.ownBlock=some gh\/w1.heap.size<=gh):Fg Z w (w2.setCell ⟨f,3,none⟩ (.slice (some ⟨gh,0,none⟩) (here.length+1) ch)) f p sb N pl text (here++[t]) (.slice (some ⟨gh,0,none⟩) (here.length+1) ch) v4 v5 s:=by
 have h1:=h.aj k1;have hf:=h1.flt;have hs:=h1.slt;have lo:∀k,v3.ownBlock=some k->w.heap.size<=k/\k<w1.heap.size:=h1.o3.lt;have b2:∀k,k<w1.heap.size->v3.ownBlock≠some k->w2.heap[k]? = w1.heap[k]?:=fun k hk hn=>hg.block k hk (fun e=>hn e.symm);have f3:v3.ownBlock≠some f:=fun e=>(h.x3 f e).1 rfl;have s3:v3.ownBlock≠some sb:=fun e=>(h.x3 sb e).2.1 rfl;have gf:gh≠f:=fun e=>by
  rcases hor with q|q
  .exact(h.x3 gh q).1 e
  .omega
 have gs:gh≠sb:=fun e=>by
  rcases hor with q|q
  .exact(h.x3 gh q).2.1 e
  .omega
 have g4:v4.ownBlock≠some gh:=fun e=>by
  rcases hor with q|q
  .exact(h.x3 gh q).2.2.1 e
  .have:=(h1.o4.lt gh e).2;omega
 have g5:v5.ownBlock≠some gh:=fun e=>by
  rcases hor with q|q
  .exact(h.x3 gh q).2.2.2 e
  .have:=(h1.o5.lt gh e).2;omega
 have c2:∀i,w2.cell? ⟨f,i,none⟩=w1.cell? ⟨f,i,none⟩:=fun i=>World.cell?_of_block (w:=w1) (b2 f hf f3);have cf:∀i,i≠3->(w2.setCell ⟨f,3,none⟩ (.slice (some ⟨gh,0,none⟩) (here.length+1) ch)).cell? ⟨f,i,none⟩=w1.cell? ⟨f,i,none⟩:=fun i hi=>(aq _ (fun e=>by injection e with _ e2 _;exact hi e2.symm)).trans (c2 i);have bl:∀k,k<w1.heap.size->k≠f->v3.ownBlock≠some k->(w2.setCell ⟨f,3,none⟩ (.slice (some ⟨gh,0,none⟩) (here.length+1) ch)).heap[k]? = w1.heap[k]?:=fun k hk hkf hn=>(Below.heap_setCell _ _ _ _ hkf).trans (b2 k hk hn);have z2:w1.heap.size<=(w2.setCell ⟨f,3,none⟩ (.slice (some ⟨gh,0,none⟩) (here.length+1) ch)).heap.size:=by simpa[World.setCell] using hg.size
 refine⟨⟨hg.os.trans h1.kp.os,hg.tape.trans h1.kp.tape,hg.output.trans h1.kp.output,QC h1.kp.size z2,fun k hk _=>?_⟩,h.flo,h.slo,h.ne,(cf _ (by omega)).trans h1.c0,(cf _ (by omega)).trans h1.c1,(cf _ (by omega)).trans h1.c2,aw _ ((c2 3).trans h1.c3),(cf _ (by omega)).trans h1.c4,(cf _ (by omega)).trans h1.c5,(cf _ (by omega)).trans h1.c6,(cf _ (by omega)).trans h1.c7,fun j u hu=>(cf _ (by omega)).trans (h1.fc j u hu),fun i=>?_,Qx hs z2,fun i hi=>?_,
  ?_,au h1.o4 (fun k hk hl=>bl k hl (h.x4 k hk).1 (fun e=>(h.x3 k e).2.2.1 hk)),au h1.o5 (fun k hk hl=>bl k hl (h.x5 k hk).1 (fun e=>(h.x3 k e).2.2.2 hk)),fun k hk=>?_,h.x4,h.x5,fun e he=>?_⟩
 .have hfk:k≠f:=by have:=h.flo;omega
  exact(bl k (Qx hk h1.kp.size) hfk (fun e=>by have:=(lo k e).1;omega)).trans (h1.kp.block k hk (by simp))
 .have e:(w2.setCell ⟨f,3,none⟩ (.slice (some ⟨gh,0,none⟩) (here.length+1) ch)).frozen? ⟨f,i,none⟩=w2.frozen? ⟨f,i,none⟩:=by simp
  exact e.trans ((World.frozen?_of_block (w:=w1) (b2 f hf f3)).trans (h1.free i))
 .have q:=h1.seen i hi;have e:=bl sb hs h.ne s3;exact⟨(World.cell?_of_block (w:=w1) e).trans q.1,(World.frozen?_of_block (w:=w1) e).trans q.2⟩
 .have:=eF own (a:=⟨f,3,none⟩) (u:=.slice (some ⟨gh,0,none⟩) (here.length+1) ch) gf;simpa[iR] using this
 .have e:k=gh:=by simpa[Value.ownBlock] using hk.symm
  subst e;exact⟨gf,gs,g4,g5⟩
 .have q:=h1.fx e he;have l:=lt_of_block q.1;refine⟨(bl e.1 l q.2.1 q.2.2.2.1).trans q.1,q.2.1,q.2.2.1,fun r=>?_,q.2.2.2.2.1,q.2.2.2.2.2⟩;have r:gh=e.1:=by simpa[Value.ownBlock] using r
  rcases hor with u|u
  .exact q.2.2.2.1 (r ▸ u)
  .omega
theorem Ia(hpl:text.size<=pl):(aM cd text pl t s).2.ahead=s.ahead:=by
 have h0:¬pl<text.size:=by omega
 unfold aM;dsimp only;rw[dif_neg h0]
 repeat' split
 all_goals rfl
theorem jn(hpl:text.size<=pl):∀(k:Nat) (o:Option Thr) (s s':Mc),eQ cd n D text pl k o s=some s'->s'.ahead=s.ahead
 | 0,_,_,_,h=>by cases h
 | k+1,some t,s,s',h=>by
  rw[eQ] at h;split at h
  .exact jn hpl k none s s' h
  .exact(jn hpl k _ _ s' h).trans (Ia hpl)
 | k+1,none,s,s',h=>by
  rw[eQ] at h;split at h
  .cases h;rfl
  .rename_i t _;exact jn hpl k (some t) { s with left:=s.left.dropLast} s' h
theorem lW(hpl:text.size<=pl):∀(l:List Thr) (s s':Mc),jr cd n D text pl l s s'->s'.ahead=s.ahead
 | [],s,s',h=>by rw[show s'=s from h]
 | t::l,s,s',h=>by
  rcases h with⟨_,_,e⟩|⟨_,s1,⟨k,g⟩,q⟩
  .rw[e]
  .exact(lW hpl l s1 s' q).trans (jn hpl k _ _ _ g)
end
theorem na{w W:World}{f p g c n D sb N pl0 bg fr:Nat}{text:ByteArray}{v3 v4 v5:Value}{s:Mc}{cd:Nat->In}(h:Fg Z w W f p sb N pl0 text [] v3 v4 v5 s)(hl:s.left=[])(ha:s.ahead=[])(hcd:Cd w p g c n D cd)(p1:w.cell? ⟨p,1,none⟩=some (.int .i64 bg))(hbg:bg<n)(hn:n*(D+1)<=9000)(hN:(text.size+1)*(n*(D+1))<=64*N)(hNb:N<=1000000)(htx:text.size<=5000)(hfr:fr<=text.size+1):Calls Tryz.prog 90 #[.pointer (some ⟨f,0,none⟩),.int .i64 fr] W fun e W'=>∃(s':Mc) (pl':Nat) (u3 u4 u5:Value),e=.returned (.bool s'.fd)/\Fg Z w W' f p sb N pl' text [] u3 u4 u5 s'/\s'.left=[]/\s'.ahead=[]/\oW cd n D text bg (text.size+1-fr) fr [] { s with fd:=false} s':=by
 obtain⟨Q,hQ⟩:∃Q,Q=n*(D+1):=⟨_,rfl⟩;rw[<-hQ] at hn hN;have HCD:=hid hcd;have P1:=hid p1;have HQ:=hid (And.intro hQ hN);have FS0:=hid h;have hc7:=h.c7;have hf7:=h.free 7;have h2:=(h.Ax).c2;have f2:=(h.Ax).free 2;have HS:=hid (And.intro hl ha);clear hcd p1 hQ h hN hl ha;go_enter Tryz.func90,Tryz.ntmps90
 go_wp2;have FS:=hid (FS0.out.Ax.place fr);generalize (W.setCell ⟨f,7,none⟩ (.bool false)).setCell ⟨f,2,none⟩ (.int .i64 (fr:Int))=W0 at *;clear FS0 hc7 hf7 h2 f2;obtain⟨ti,hi,hz0,hz1,hz2⟩:=info_parts Tryz.DM;have HI:=hid hi;have HZ:=hid (And.intro hz0 (And.intro hz1 hz2));clear hi hz0 hz1 hz2;go_loopw [12] (fun _ wr=>∃(pl:Nat) (here:List Thr) (a3 a4 a5:Value) (sk:Mc),Fg Z w wr f p sb N pl text here a3 a4 a5 sk/\sk.left=[]/\sk.ahead=[]/\OkM n D sk/\(∀u∈here,okT n D u)/\here.length<=Q/\pl<=text.size+1/\(text.size<pl->here=[])/\fr<=pl/\Hid (∀s',oW cd n D text bg (text.size+1-pl) pl here sk s'->oW cd n D text bg (text.size+1-fr) fr [] { s with fd:=false} s')) (fun _ wr=>text.size+2-pV wr f)
 case atStart=>exact⟨fr,[],_,_,_,_,FS.out,HS.out.1,HS.out.2,⟨fun u hu=>(by rw[show({ s with fd:=false}:Mc).ahead=s.ahead from rfl,HS.out.2] at hu;cases hu),fun u hu=>(by rw[show({ s with fd:=false}:Mc).left=s.left from rfl,HS.out.1] at hu;cases hu)⟩,fun u hu=>(by cases hu),QG _,hfr,fun _=>rfl,QD _,hid (fun s' q=>q)⟩
 case round=>
  obtain⟨pl,here,a3,a4,a5,sk,fg,lk,ak,okk,okh,hlen,hpl1,hend,hfp,back⟩:=hrel;have FG:=hid fg;have OKK:=hid (And.intro okk okh);have d1:=fg.c1;have d2:=fg.c2;have d7:=fg.c7;have hpw:pV wr f=pl:=by unfold pV;rw[fg.c2];simp
  have HEND:=hid hend;clear FS fg okk okh hend;by_cases hpl:pl<=text.size
  .have erun:text.size+1-pl=(text.size-pl)+1:=by omega
   cases hfd:sk.fd with
   | false=>
    rw[hfd] at d7;go_wp2_with fail;go_quiet (fail);have FGd:=hid (FG.out.aj (Kp.drewN [] wr nq));have d7q:(wr.drewN nq).cell? ⟨f,7,none⟩=some (.bool false):=d7;generalize wr.drewN nq=wr2 at *;clear d2 d1 d7;go_wp2_with fail;clear d7q;have d3a:=FGd.out.c3;have d0a:=FGd.out.c0;have d2a:=FGd.out.c2;have e3a:=FGd.out.free 3;have q1a:=(FGd.out.kp.cell (p:=⟨p,1,none⟩) HCD.out.hp (by simp)).trans P1.out;refine wp_region_noPanic ?_;refine az (fun w':World=>w'.cell? ⟨f,3,none⟩=some a3/\w'.cell? ⟨f,0,none⟩=some (.pointer (some ⟨p,0,none⟩))/\w'.cell? ⟨p,1,none⟩=some (.int .i64 bg)/\w'.cell? ⟨f,2,none⟩=some (.int .i64 pl)) 22 (by kernel_rfl) ?_;have hSa:(fun w':World=>w'.cell? ⟨f,3,none⟩=some a3/\w'.cell? ⟨f,0,none⟩=some (.pointer (some ⟨p,0,none⟩))/\w'.cell? ⟨p,1,none⟩=some (.int .i64 bg)/\w'.cell? ⟨f,2,none⟩=some (.int .i64 pl)) wr2.drew:=⟨d3a,d0a,q1a,d2a⟩;iterate 16(refine tkn (v:=?_) rfl (by kernel_rfl) (fun _ _ _ h=>h) ⟨rfl,fun w hSw=>?_⟩ hSa ?_;rotate_left;(focus((try dsimp only at hSw);go_simp;(try with_reducible rfl)));(try simp only[Qt,Qs,Qr,Act.put,Qq,Qu,Qv]))
    refine ai (i:=16) (by kernel_rfl) rfl (fun K hK=>?_);go_simp;refine(Jv pl _).mono ?_;rintro e w1a ⟨rfl,k1a⟩;have S1a:(fun w':World=>w'.cell? ⟨f,3,none⟩=some a3/\w'.cell? ⟨f,0,none⟩=some (.pointer (some ⟨p,0,none⟩))/\w'.cell? ⟨p,1,none⟩=some (.int .i64 bg)/\w'.cell? ⟨f,2,none⟩=some (.int .i64 pl)) w1a:=⟨(k1a.cell (World.block_lt_of_cell? _ _ d3a) (by simp)).trans d3a,(k1a.cell (World.block_lt_of_cell? _ _ d0a) (by simp)).trans d0a,(k1a.cell (World.block_lt_of_cell? _ _ q1a) (by simp)).trans q1a,(k1a.cell (World.block_lt_of_cell? _ _ d2a) (by simp)).trans d2a⟩;have g3a:w1a.frozen? ⟨f,3,none⟩=false:=(k1a.frozen (p:=⟨f,3,none⟩) (World.block_lt_of_cell? _ _ d3a) (by simp)).trans e3a;have KKa:Hid (Kp [] wr2 w1a):=hid ((Kp.drew _ _).trans k1a);have F1a:=hid (FGd.out.aj KKa.out);clear k1a;refine hK.out _ _ (.inr S1a) ?_;clear hK K;refine tk1 17 (v:=?_) rfl (by kernel_rfl) (fun _ _ _ h=>h) ⟨rfl,fun w hSw=>?_⟩ S1a ?_;rotate_left;· ((try dsimp only at hSw);go_simp;(try with_reducible rfl))
    (try simp only[Qt,Qs,Qr,Act.put,Qq,Qu,Qv])
    refine ai (i:=18) (by kernel_rfl) rfl (fun K hK=>?_);go_simp;refine hK.out _ _ (.inr ⟨fH S1a.1 _,fH S1a.2.1 _,fH S1a.2.2.1 _,fH S1a.2.2.2 _⟩) ?_;clear hK K;refine ai (i:=19) (by kernel_rfl) rfl (fun K hK=>?_);refine fK (by rfl) (.tmp 38) (.tmp 52) 155 (by rfl) w.heap.size 189 ti _ 22 176 Tryz.underlying155 HI.out HZ.out.1 HZ.out.2.1 HZ.out.2.2 rfl (by decide) a3 here.length (flat here) (by rfl) (F1a.out.o3.alloc _) ⟨w1a.heap.size,0,none⟩ 1 1 (tf bg (0:Nat) (nz pl)) (by rfl) rfl (Ny w1a _ _ _ rfl) (pF bg (0:Nat) (nz pl)) (by unfold maxLen;omega) (by omega) (QC F1a.out.kp.size (by simp)) (by decide) ?_;intro gha cha w2a own2a grow2a or2a;have fnea:some f≠a3.ownBlock:=fun e=>(F1a.out.x3 f e.symm).1 rfl;have pnea:some p≠a3.ownBlock:=rS F1a.out.o3 HCD.out.hp;have S2a:(fun w':World=>w'.cell? ⟨f,3,none⟩=some a3/\w'.cell? ⟨f,0,none⟩=some (.pointer (some ⟨p,0,none⟩))/\w'.cell? ⟨p,1,none⟩=some (.int .i64 bg)/\w'.cell? ⟨f,2,none⟩=some (.int .i64 pl)) w2a:=⟨aV grow2a fnea (fH S1a.1 _),aV grow2a fnea (fH S1a.2.1 _),aV grow2a pnea (fH S1a.2.2.1 _),aV grow2a fnea (fH S1a.2.2.2 _)⟩
    refine hK.out _ _ (.inr S2a) ?_;clear hK K;refine ai (i:=20) (by kernel_rfl) rfl (fun K hK=>?_);go_simp;refine hK.out _ _ (.inr S2a) ?_;clear hK K;refine ai (i:=21) (by kernel_rfl) rfl (fun K hK=>?_);go_simp;refine hK.out _ _ (.inr S2a) ?_;clear hK K;have s23a:=S2a.1;have sf3a:w2a.frozen? ⟨f,3,none⟩=false:=(eI grow2a (p:=⟨f,3,none⟩) fnea (World.block_lt_of_cell? _ _ (fH S1a.1 _))).trans (((Kp.alloc [] w1a _).frozen (World.block_lt_of_cell? _ _ S1a.1) (by simp)).trans g3a);have FT:=hid (FGd.out.begun (t:=⟨bg,0,nz pl⟩) (KKa.out.trans (Kp.alloc _ _ _)) grow2a own2a or2a);clear own2a grow2a or2a S2a S1a hSa d2a d0a d3a q1a fnea pnea F1a KKa;refine ai (i:=22) (by kernel_rfl) rfl (fun K hK=>?_);go_simp;refine hK.out _ _ (.inl rfl) ?_;clear hK K;refine ax (by kernel_rfl) ?_ _;refine NoPanic.normal ?_;generalize w2a.setCell ⟨f,3,none⟩ (.slice (some ⟨gha,0,none⟩) (here.length+1) cha)=W2 at *;clear s23a sf3a g3a e3a
    have d3:=FT.out.c3;go_wp2_with fail;clear d3;have okh1:∀u∈(here++[(⟨bg,0,nz pl⟩:Thr)]),okT n D u:=fun u hu=>by
     rcases List.mem_append.1 hu with e|e
     .exact OKK.out.2 u e
     .rw[List.mem_singleton.1 e];exact⟨hbg,QG _⟩
    have hl1:(here++[(⟨bg,0,nz pl⟩:Thr)]).length<=10000:=by simp;omega
    refine(DP FT.out (by simp) lk HCD.out okh1 OKK.out.1 HQ.out.1 rfl HQ.out.2 hNb (by omega) hpl (by rw[ak];simp) hl1).mono ?_;rintro e W3 ⟨rfl,b3,b4,b5,s1,fg1,l1,ok1,len1,sw1⟩;have F1:=hid (And.intro fg1 (And.intro ok1 sw1));have d2:=fg1.c2;have e2:=fg1.free 2;clear fg1 ok1 sw1;obtain⟨pl1,hpl1'⟩:∃pl1:Nat,pl1=pl+1:=⟨_,rfl⟩;have hsum:(pl:Int)+1=(pl1:Int):=by omega
    have wsum:=aa pl1 (by omega);have HP:=hid hpl1';clear hpl1';go_wp2_with fail;have hpw1:pV (W3.setCell ⟨f,2,none⟩ (.int .i64 (pl1:Int))) f=pl1:=by unfold pV;rw[aw _ d2];simp
    refine⟨⟨pl1,s1.ahead,b3,b4,b5,_,F1.out.1.place pl1,l1,rfl,⟨fun u hu=>(by cases hu),F1.out.2.1.left⟩,F1.out.2.1.ahead,by rw[ak] at len1;simpa using len1,by have:=HP.out;omega,fun hx=>?_,by have:=HP.out;omega,hid (fun s' q=>back.out s' ?_)⟩,?_⟩
    .have:=HP.out;exact(lW (by omega) _ _ _ F1.out.2.2).trans ak
    .rw[erun];refine .inr ⟨by simp[hfd],s1,by simpa[hfd] using F1.out.2.2,?_⟩;rw[HP.out] at q
     rwa [show text.size+1-(pl+1)=text.size-pl by omega] at q
    .have:=HP.out;rw[hpw1,hpw];omega
   | true=>
    rw[hfd] at d7
    cases here with
    | nil=>
     have o3:=FG.out.o3;have d3:=FG.out.c3;rcases dw o3 with⟨e3,_⟩|⟨gg,cc,e3⟩
     all_goals
      rw[e3] at d3;clear o3;go_wp2_with fail;go_quiet (fail);go_wp2_with fail;go_ret;exact⟨sk,pl,a3,a4,a5,(by rw[hfd];rfl),FG.out.aj (Kp.drewN [] wr nq),lk,ak,back.out sk (by rw[erun];exact .inl ⟨by simp[hfd],rfl⟩)⟩
    | cons h0 hr=>
     have o3:=FG.out.o3;have d3:=FG.out.c3;rcases dw o3 with⟨_,e3⟩|⟨gg,cc,e3⟩
     .cases e3
     .rw[e3,QF] at d3;clear o3;go_wp2_with fail;go_quiet (fail);go_wp2_with fail;clear d1 d2 d7 d3;have okh1:∀u∈(h0::hr),okT n D u:=OKK.out.2;have hl1:(h0::hr).length<=10000:=by omega
      refine(DP (FG.out.aj (Kp.drewN [] wr nq)) (by simp) lk HCD.out okh1 OKK.out.1 HQ.out.1 rfl HQ.out.2 hNb (by omega) hpl (by rw[ak];simp) hl1).mono ?_;rintro e W3 ⟨rfl,b3,b4,b5,s1,fg1,l1,ok1,len1,sw2⟩;have F1:=hid (And.intro fg1 (And.intro ok1 sw2));have d2:=fg1.c2;have e2:=fg1.free 2;clear fg1 ok1 sw2;obtain⟨pl1,hpl1'⟩:∃pl1:Nat,pl1=pl+1:=⟨_,rfl⟩;have hsum:(pl:Int)+1=(pl1:Int):=by omega
      have wsum:=aa pl1 (by omega);have HP:=hid hpl1';clear hpl1';go_wp2_with fail;have hpw1:pV (W3.setCell ⟨f,2,none⟩ (.int .i64 (pl1:Int))) f=pl1:=by unfold pV;rw[aw _ d2];simp
      refine⟨⟨pl1,s1.ahead,b3,b4,b5,_,F1.out.1.place pl1,l1,rfl,⟨fun u hu=>(by cases hu),F1.out.2.1.left⟩,F1.out.2.1.ahead,by rw[ak] at len1;simpa using len1,by have:=HP.out;omega,fun hx=>?_,by have:=HP.out;omega,hid (fun s' q=>back.out s' ?_)⟩,?_⟩
      .have:=HP.out;exact(lW (by omega) _ _ _ F1.out.2.2).trans ak
      .rw[erun];refine .inr ⟨by simp[hfd],s1,by simpa[hfd] using F1.out.2.2,?_⟩;rw[HP.out] at q
       rwa [show text.size+1-(pl+1)=text.size-pl by omega] at q
      .have:=HP.out;rw[hpw1,hpw];omega
  .have hple:pl=text.size+1:=by omega
   have hh:=HEND.out (by omega);subst hh;have hb0:=hid (back.out sk (by rw[hple,R6];rfl));have HP:=hid hple;clear hple;obtain⟨fdv,hfdv⟩:∃b,sk.fd=b:=⟨_,rfl⟩;rw[hfdv] at d7;go_wp2_with fail;go_quiet (fail);go_wp2_with fail;go_ret;exact⟨sk,pl,a3,a4,a5,(by rw[hfdv];rfl),FG.out.aj (Kp.drewN [] wr nq),lk,ak,hb0.out⟩
