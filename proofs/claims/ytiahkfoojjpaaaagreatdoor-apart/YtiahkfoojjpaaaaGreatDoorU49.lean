import Derived.Test.YtiahkfoojjpaaaaGreatDoorU48
set_option maxRecDepth 100000
set_option maxHeartbeats 16000000
set_option linter.all false
namespace Go.Proofs.YtiahkfoojjpaaaaGreatDoor
open Go.RowKit
section
variable {w w0 wx:World} {lo hi sb b:Nat} {σ:Sst} {S:eF} {ca co:Nat} {cv:List Value} {c:aV}
theorem zH {α:Type} (f:α->List UInt8) (m:Nat):∀ L:List α,(∀ a∈L,(f a).length<=m)->(L.flatMap f).length<=m * L.length
 | [],_=>by simp
 | a::L,h=>by
  have h1:=h a (by simp);have h2:=zH f m L (fun b hb=>h b (by simp [hb]));rw [Pq,Nu,NO,Nat.mul_add];omega
theorem txt_le {nn rr:Nat} (hs:ye c) (hk:fj nn rr c):c.txt.length<=20000:=by
 have h1:=MH hs hk.nb hk.st;have h2:(adrsT c.dV).length<=5000:=by
  have hl:=hk.adr;have ha:∀ a∈c.dV,a.txt.size<=2002:=fun a hm=>Jf (fun n e=>hk.Jv n (by rw [<-e];exact hm)) (fun q e=>hs.ap q (by rw [<-e];exact hm))
  revert ha hl
  generalize c.dV=L;intro hl ha
  cases L with
  | nil=>simp [adrsT]
  | cons a L=>
   have h1:=ha a (by simp)
   have h2:=zH (fun b:AdrS=>44::b.txt.data.toList) 2003 L (fun b hb=>by
    have:=ha b (by simp [hb]);rw [NO,Oo];show b.txt.size+1<=2003
    omega)
   rw [adrsT,Nu,Oo];show a.txt.size+_<=5000;rw [NO] at hl;have:2003 * L.length<=2003 * 1:=OO _ (by omega);omega
 have e1:c.opr.data.toList.length=c.opr.size:=Oo;unfold aV.txt;rcases Bool.eq_false_or_eq_true c.neg with h | h
 .rw [h,Ny rfl];simp only [Nu,NO,OC,e1];omega
 .rw [h,Nr (by simp)];simp only [Nu,NO,OC,e1];omega
theorem stext_t (hP:Prg w lo hi sb σ S) (hs:∀ c∈S.aG,ye c) (hw:∀ c∈S.aG,c.what < 256) :
  Calls Tryz.prog 23 #[.pointer (some ⟨sb,0,none⟩)] w fun r w'=>r=.returned (.string (ba S.txt))/\Kp [] w w':=by
 obtain ⟨A,cc,e,_,_⟩:=aP hP.sc.o4;have c0:=hP.sc.c0;have c1:=hP.sc.c1;rw [hP.pg.qt] at c0;rw [e,hP.pg.len] at c1;have hl:=hP.ok.cl;have hsb:sb < w.heap.size:=World.block_lt_of_cell? _ _ c0
 have HC:Hid (∀ (i:Nat) (c:aV),S.aG[i]? = some c->∃ g,A=some ⟨g,0,none⟩/\∀ (b:Nat) (l:List UInt8) (wx:World),Bd w b l wx->l.length<=90000000000->Calls Tryz.prog 37 #[.pointer (some ⟨g,i * 23,none⟩),.pointer (some ⟨b,0,none⟩)] wx fun r w'=>r=.returned (.tuple #[])/\Bd w b (l++c.txt) w'):=hid (fun i c hc=>by
  obtain ⟨g,cap,cv,hv,_,hT⟩:=hP.cmd hc;have hm:=NM hc;refine ⟨g,?_,fun b l wx hb hll=>tell_c ⟨⟨cv,hT.is,hT.at_.at_⟩,hT.at_.lt,hT.fx⟩ (hs c hm) hP.pw hT.ok (hw c hm) hb hll⟩;rw [e] at hv
  injection hv)
 have HTL:Hid (∀ (i:Nat) (c:aV),S.aG[i]? = some c->c.txt.length<=20000):=hid (fun i c hc=>by
  obtain ⟨g,cap,cv,hv,_,hT⟩:=hP.cmd hc
  exact txt_le (hs c (NM hc)) hT.ok)
 have HTX:Hid (S.txt=(if S.quiet then [35,110,10] else [])++S.aG.flatMap aV.txt):=hid rfl;obtain ⟨q,hq⟩:∃ q,q=S.quiet:=⟨_,rfl⟩;rw [<-hq] at c0 HTX;obtain ⟨n,hn⟩:∃ n,n=S.aG.length:=⟨_,rfl⟩;rw [<-hn] at c1 hl;have HN:=hid hn;obtain ⟨R,hR⟩:∃ R,R=S.txt:=⟨_,rfl⟩;rw [<-hR] at HTX ⊢;have ka:=Kp.alloc [] w (.cells #[.pointer none,.slice none 0 0] 75);have HB0:Hid (Bd w w.heap.size [] (w.alloc (.cells #[.pointer none,.slice none 0 0] 75))):=hid ⟨bdr_new w,ka⟩;obtain ⟨b,hb⟩:∃ b,b=w.heap.size:=⟨_,rfl⟩;obtain ⟨w1,hw1⟩:∃ w1,w1=w.alloc (.cells #[.pointer none,.slice none 0 0] 75):=⟨_,rfl⟩;have HBW:=hid (And.intro hb hw1);rw [<-hb,<-hw1] at HB0;rw [<-hw1] at ka;have HK:Hid (∀ wx,Kp [] w wx->wx.cell? ⟨sb,0,none⟩=some (.bool q)/\wx.cell? ⟨sb,0+1,none⟩=some (.slice A n cc)):=hid (fun wx kx=>⟨(kx.cell (p:=⟨sb,0,none⟩) hsb (by simp)).trans c0,(kx.cell (p:=⟨sb,0+1,none⟩) hsb (by simp)).trans c1⟩);obtain ⟨d0,d1⟩:=HK.out w1 ka
 clear hP hs hw e c0 c1 hq hn hR hb hw1 hsb;go_enter Tryz.func23,Tryz.ntmps23
 go_upto_region 2 with fail
 rw [<-HBW.out.1,<-HBW.out.2];obtain ⟨Q,hQ⟩:∃ Q:List UInt8,Q=if q then [35,110,10] else []:=⟨_,rfl⟩;have hQl:Q.length<=3:=by rw [hQ];split <;> simp
 rw [<-hQ] at HTX;have hQ2:=hid hQ;go_upto_if 8 with fail
 go_cut [9] from 9 (fun _ wr=>Hid (Bd w b Q wr))
 case first=>
  cases q with
  | true=>
   have HS:=hid (HB0.out.str ⟨#[35,110,10]⟩ (by show 0+3<=_;omega));go_wp2_with fail;refine HS.out.mono ?_;rintro r w2 ⟨rfl,B2⟩;have HB2:=hid B2;clear B2;go_wp2_with fail;go_meet
   case rel=>exact hid (by rw [hQ2.out];exact HB2.out)
  | false=>
   go_wp2_with fail;go_meet
   case rel=>exact hid (by rw [hQ2.out];exact HB0.out)
 case rest=>
  have HBQ:=hid hcut;clear hcut HB0 d0 d1;obtain ⟨d0,d1⟩:=HK.out wc HBQ.out.out.kp;go_wp2_with fail;go_loopw [15,4] (fun v _ wr=>∃ k:Nat,k<=n/\v=.int .i64 k/\Hid (Bd w b (Q++(S.aG.take k).flatMap aV.txt) wr)) (fun v _ _=>n - (intOf v).toNat)
  case atStart=>exact ⟨0,by omega,rfl,hid (by simpa using HBQ.out.out)⟩
  case round=>
   obtain ⟨k,hk,rfl,HBK⟩:=hrel;by_cases hkn:k < n
   .obtain ⟨c,hc⟩:∃ c,S.aG[k]? = some c:=⟨_,Nv (by rw [<-HN.out];exact hkn)⟩;obtain ⟨g,rfl,hca⟩:=HC.out k c hc;have hPl:(Q++(S.aG.take k).flatMap aV.txt).length<=90000000000:=by
     have:=zH aV.txt 20000 (S.aG.take k) (fun a ha=>by
      obtain ⟨i,hi⟩:=List.mem_iff_getElem?.1 (OK ha)
      exact HTL.out i a hi)
     rw [N3] at this;have:20000 * min k S.aG.length<=20000 * 2000:=OO _ (by omega);rw [Nu];omega
    have HCA:=hid (hca b _ wr HBK.out hPl)
    have HSN:Hid (Q++(S.aG.take (k+1)).flatMap aV.txt=(Q++(S.aG.take k).flatMap aV.txt)++c.txt):=hid (by
     rw [OU,hc,Pp,Po]
     simp)
    obtain ⟨e0,e1⟩:=HK.out wr HBK.out.kp;obtain ⟨k1,hk1⟩:∃ k1:Nat,(k:Int)+1=(k1:Int):=⟨k+1,by omega⟩;have wk:=aa k1 (by omega);clear hca hc hPl;go_wp2_with fail;refine HCA.out.mono ?_;rintro r w2 ⟨rfl,B2⟩;have HB2:=hid B2;clear B2;go_wp2_with fail;go_round
    case rel=>
     have e1:k1=k+1:=by omega
     subst e1;exact ⟨k+1,by omega,by trivial,hid (by rw [HSN.out];exact HB2.out)⟩
    case measure=>simp [intOf];omega
   .have hkk:k=n:=by omega
    subst hkk;have HF:Hid (Q++(S.aG.take k).flatMap aV.txt=R):=hid (by rw [HTX.out,HN.out,Oj]);rw [HF.out] at HBK;have HST:=hid (IY HBK.out.bd HBK.out.kp.size);go_wp2_with fail;refine HST.out.mono ?_;rintro r w2 ⟨rfl,bl⟩;have KF:=hid (tp HBK.out.kp bl);clear bl;go_wp2_with fail;go_ret;exact ⟨rfl,KF.out⟩
theorem text_t (hP:Prg w lo hi sb σ S) (hs:∀ c∈S.aG,ye c) (hw:∀ c∈S.aG,c.what < 256) :
  Calls Tryz.prog 10 #[.pointer (some ⟨sb,0,none⟩)] w fun r w'=>r=.returned (.string (ba S.txt))/\Kp [] w w':=by
 have HA:=hid (stext_t hP hs hw);clear hP hs hw;go_enter Tryz.func10,Tryz.ntmps10
 go_wp2_with fail;refine HA.out.mono ?_;rintro r w1 ⟨rfl,k1⟩;go_wp2_with fail;go_ret;exact ⟨rfl,k1⟩
end
theorem Tryz.Lb:(Tryz.prog.info? 40).map (fun i=>(i.zero,i.size,i.bytes))=some (some (.agg #[.string ⟨#[]⟩,.string ⟨#[]⟩]),2,32):=by kernel_rfl
section
variable {w0 w w' w2:World} {mb sb db lo hi:Nat} {s s':Mst} {u:Ust} {σ:Sst} {S:eF}
def lB (cv:List Value) (ns:List ByteArray) (fb:List (List UInt8)) (i:Nat):Prop:=∀ j nm bs,j < i->ns[j]? = some nm->fb[j]? = some bs->cv[j * 2]? = some (.string nm)/\cv[j * 2+1]? = some (.string (ba bs))
theorem lB.put {cv:List Value} {ns:List ByteArray} {fb:List (List UInt8)} {i:Nat} {nm:ByteArray} {bs:List UInt8} (h:lB cv ns fb i) (h1:ns[i]? = some nm) (h2:fb[i]? = some bs) (hl:i * 2+1 < cv.length):lB ((cv.set (i * 2) (.string nm)).set (i * 2+1) (.string (ba bs))) ns fb (i+1):=by
 intro j nm' bs' hj q1 q2;by_cases e:j=i
 .subst e;rw [h1] at q1;rw [h2] at q2;injection q1 with q1;injection q2 with q2;subst q1 q2;refine ⟨?_,?_⟩
  .rw [NL (by omega),NK (by omega)]
  .rw [NK (by rw [N5];omega)]
 .obtain ⟨r1,r2⟩:=h j nm' bs' (by omega) q1 q2;refine ⟨?_,?_⟩
  .rw [NL (by omega),NL (by omega)];exact r1
  .rw [NL (by omega),NL (by omega)];exact r2
theorem Kw {n:Nat} (h:Mac w0 w mb sb db s) (hs:Scr lo hi w0 sb 0 σ) (hn1:σ.ns.length=n) (hn2:s.r.fb.length=n) (hn:n<=2000) :
  Calls Tryz.prog 29 #[.pointer (some ⟨mb,0,none⟩)] w fun r w'=>∃ nb cv,r=.returned (.slice (some ⟨nb,0,none⟩) n n)/\Kp [] w w'/\Bl w' nb cv/\cv.length=n * 2/\lB cv σ.ns s.r.fb n/\w.heap.size<=nb:=by
 obtain ⟨i0,hi,hz0,hz1,hz2⟩:=info_parts Tryz.Lb;have hmk:∀ w:World,(Instr.makeSlice 37 (.int .i64 n) (.int .i64 n)).run Tryz.prog w=.ok (.slice (some ⟨w.heap.size,0,none⟩) n n) (w.alloc (.cells (madeCells #[.string ⟨#[]⟩,.string ⟨#[]⟩] (n * 2)) 40)):=fun w=>by
  have q:=run_make (P:=Tryz.prog) w 37 40 i0 _ Tryz.underlying37 hi hz0 .i64 .i64 n n (by omega) (by omega) (by rw [hz2];omega) (by omega);rw [hz1] at q;exact q
 obtain ⟨A,c,ev,ev1,ev2⟩:=aP h.r.o3;have hfl:s.r.fl.length=n:=by rw [<-h.r.fll];exact hn2
 have c6:=h.b.at_ 6 _ rfl;replace c6:w.cell? ⟨mb,6,none⟩=some s.r.vf:=c6;rw [ev,hfl] at c6;obtain ⟨mc,hmc⟩:∃ mc,mc=(madeCells #[.string ⟨#[]⟩,.string ⟨#[]⟩] (n * 2)).toList:=⟨_,rfl⟩;have hml:mc.length=n * 2:=by rw [hmc];simp [size_madeCells]
 have hmt:madeCells #[.string ⟨#[]⟩,.string ⟨#[]⟩] (n * 2)=mc.toArray:=by rw [hmc]
 rw [hmt] at hmk;obtain ⟨nb,hnb⟩:∃ nb,nb=w.heap.size:=⟨_,rfl⟩;obtain ⟨wa,hwa⟩:∃ wa,wa=w.alloc (.cells mc.toArray 40):=⟨_,rfl⟩;have B0:Bl wa nb mc:=by rw [hwa,hnb];exact Bl.alloc w mc _
 have k0:Kp [] w wa:=by rw [hwa];exact Kp.alloc [] w _
 have HB0:=hid B0;have HK0:=hid k0;have HM:=hid (And.intro hml (And.intro hn1 (And.intro hn2 hfl)));have HH:=hid h;have HS:=hid hs;have HV:=hid ev;have HNB:=hid hnb;clear hmc hml hmt B0 k0 hn1 hn2 hfl h hs ev ev1 ev2 hi hz0 hz1 hz2;go_enter Tryz.func29,Tryz.ntmps29
 go_wp2_with fail;rw [<-hwa,<-hnb];clear hmk c6 hnb hwa;go_loopw [4,14] (fun _ i wr=>∃ (j:Nat) (cv:List Value),j<=n/\i=.int .i64 j/\Hid (cv.length=n * 2)/\Hid (lB cv σ.ns s.r.fb j)/\Hid (Bl wr nb cv)/\Hid (Kp [] w wr)) (fun _ i _=>5000 - (intOf i).toNat)
 case atStart=>exact ⟨0,mc,NH _,rfl,hid HM.out.1,hid (fun j _ _ hj=>absurd hj (by omega)),HB0,HK0⟩
 case round=>
  obtain ⟨j,cv,hj,rfl,HL,HF,HB,HK⟩:=hrel;by_cases hjn:j < n
  case neg=>
   have hjj:j=n:=by omega
   subst hjj;go_wp2_with fail;go_ret;exact ⟨nb,cv,rfl,HK.out,HB.out,HL.out,HF.out,by rw [HNB.out];exact Nw _⟩
  case pos=>
   obtain ⟨hml,hn1,hn2,hfl⟩:=HM.out;have m1:=HH.out.aj HK.out;have s1:=HS.out.aj m1.r.kp (fun _ e=>by cases e);obtain ⟨nm,hnm⟩:∃ nm,σ.ns[j]? = some nm:=⟨_,Nv (by omega)⟩;obtain ⟨fv,hfv⟩:∃ fv,s.r.fl[j]? = some fv:=⟨_,Nv (by omega)⟩;obtain ⟨bs,hbs,ofl⟩:=m1.r.ofl j fv hfv;obtain ⟨An,cn,evn,evn1,evn2⟩:=aP s1.o5;obtain ⟨Af,cf,evf,evf1,evf2⟩:=aP m1.r.o3;have on:=s1.o5;have of_:=m1.r.o3;have c2:=s1.c2;have c6:wr.cell? ⟨mb,6,none⟩=some s.r.vf:=m1.b.at_ 6 _ rfl;rw [evn,hn1] at c2;rw [evf,hfl] at c6;rw [evn,hn1] at on;rw [evf,hfl] at of_
   cases An with
   | none=>have:=evn1 rfl;omega
   | some an=>
   obtain ⟨gn,rfl⟩:=evn2 an rfl
   cases Af with
   | none=>have:=evf1 rfl;omega
   | some af=>
   obtain ⟨gf,rfl⟩:=evf2 af rfl;have cn1:wr.cell? ⟨gn,j,none⟩=some (.string nm):=(on.cellAt j (by omega)).trans (by rw [N6,hnm];rfl);have cf1:wr.cell? ⟨gf,j,none⟩=some fv:=(of_.cellAt j (by omega)).trans hfv;have hcv:=fG ofl;have hb1:=HB.out;have hL2:j * 2+1 < cv.length:=by rw [HL.out];omega
   obtain ⟨z0,hz0⟩:∃ z0,cv[j * 2]? = some z0:=⟨_,Nv (by omega)⟩;obtain ⟨z1,hz1⟩:∃ z1,cv[j * 2+1]? = some z1:=⟨_,Nv hL2⟩;have hc0:=hb1.at_ (j * 2) z0 hz0;have hc1:=hb1.at_ (j * 2+1) z1 hz1;have f0:=hb1.free (j * 2);have f1:=hb1.free (j * 2+1);have HFP:=hid (HF.out.put hnm hbs (by rw [HL.out];omega));have c0:=m1.b.at_ 0 _ rfl;obtain ⟨wd,hwd⟩:∃ wd,wd=wr.drew:=⟨_,rfl⟩;have hS:(fun w':World=>w'.cell? ⟨mb,0,none⟩=some (.pointer (some ⟨sb,0,none⟩))/\w'.cell? ⟨sb,2,none⟩=some (.slice (some ⟨gn,0,none⟩) n cn)/\w'.cell? ⟨gn,j,none⟩=some (.string nm)/\w'.cell? ⟨mb,6,none⟩=some (.slice (some ⟨gf,0,none⟩) n cf)/\w'.cell? ⟨gf,j,none⟩=some fv/\(convert 49 9 fv).run Tryz.prog w'=.ok (.string (ba bs)) w') wd:=by rw [hwd];exact ⟨c0,c2,cn1,c6,cf1,fG (w:=wr.drew) ofl⟩
   have kd:Kp [] wr wd:=by rw [hwd];exact Kp.drew [] wr
   have hbd:=hb1.aj kd (by simp);have HBD:=hid hbd;have HKD:=hid kd;have HL2:=hid hL2;have HZ:=hid (And.intro hz0 hz1);have HN3:=hid (And.intro hnm (And.intro hbs hfv));clear hml hn1 hn2 hfl m1 s1 hnm hbs hfv ofl evn evn1 evn2 evf evf1 evf2 on of_ c2 c6 cn1 cf1 hcv hb1 hc0 hc1 f0 f1 c0 hbd kd hL2 hz0 hz1;go_upto_region 5 with fail
   refine aA (fun w':World=>w'.cell? ⟨mb,0,none⟩=some (.pointer (some ⟨sb,0,none⟩))/\w'.cell? ⟨sb,2,none⟩=some (.slice (some ⟨gn,0,none⟩) n cn)/\w'.cell? ⟨gn,j,none⟩=some (.string nm)/\w'.cell? ⟨mb,6,none⟩=some (.slice (some ⟨gf,0,none⟩) n cf)/\w'.cell? ⟨gf,j,none⟩=some fv/\(convert 49 9 fv).run Tryz.prog w'=.ok (.string (ba bs)) w') 23 (by kernel_rfl) ?_;rw [<-hwd];clear hwd;iterate 23 (refine tkn (v:=?_) rfl (by kernel_rfl) (fun _ _ _ h=>h) ⟨rfl,fun w hSw=>?_⟩ hS ?_;rotate_left;(focus ((try dsimp only at hSw);go_simp;(try with_reducible rfl)));(try simp only [Nn,Nk,Nj,Act.put,Ni,Np,Nq]))
   have e0:=HBD.out.at_ (j * 2) z0 HZ.out.1;have e1:=HBD.out.at_ (j * 2+1) z1 HZ.out.2;have g0:=HBD.out.free (j * 2);have g1:=HBD.out.free (j * 2+1);refine ai (i:=23) (by kernel_rfl) rfl (fun K hK=>?_);go_simp;refine hK.out _ _ (.inl rfl) ?_;clear hK K;refine ax (by kernel_rfl) ?_ _;have B2:=hid ((HBD.out.set (j * 2) (.string nm) (by have:=HL2.out;omega)).set (j * 2+1) (.string (ba bs)) (by rw [N5];exact HL2.out));have k2:Kp [nb] wd ((wd.setCell ⟨nb,j * 2,none⟩ (.string nm)).setCell ⟨nb,j * 2+1,none⟩ (.string (ba bs))):=(Kp.setCell _ _ (by simp)).trans (Kp.setCell _ _ (by simp));have K2:=hid ((HK.out.trans HKD.out).past k2 (fun x hx=>.inr (by rw [List.mem_singleton.1 hx,HNB.out];exact Nw _)));obtain ⟨w9,hw9⟩:∃ w9,w9=(wd.setCell ⟨nb,j * 2,none⟩ (.string nm)).setCell ⟨nb,j * 2+1,none⟩ (.string (ba bs)):=⟨_,rfl⟩;rw [<-hw9] at B2 K2 ⊢;clear hw9 k2 e0 e1 g0 g1 hS;go_wp2_with fail;go_round
   case rel=>exact ⟨j+1,_,by omega,rfl,hid (by rw [N5,N5];exact HL.out),HFP,B2,K2⟩
   case measure=>simp [intOf];omega
theorem zJ {eb:Nat} (hP:Prg w0 lo hi sb σ S) (h:Ed w0 w eb mb sb db S s u) (hf:u.fb.length=S.names.length) :
  Calls Tryz.prog 16 #[.pointer (some ⟨eb,0,none⟩)] w fun r w'=>∃ nb cv,r=.returned (.slice (some ⟨nb,0,none⟩) S.names.length S.names.length)/\Kp [] w w'/\Bl w' nb cv/\cv.length=S.names.length * 2/\lB cv S.names u.fb S.names.length/\w.heap.size<=nb:=by
 have he:=h.e;have efb:s.r.fb=u.fb:=congrArg Pst.fb h.p;have HF:=Kw h.m hP.sc (by rw [hP.pg.ns]) (by rw [efb];exact hf) hP.ok.nl;rw [hP.pg.ns,efb] at HF;replace HF:=hid HF;clear h hP efb hf
 have HID:Hid (Calls Tryz.prog 26 #[.pointer (some ⟨eb,0,none⟩)] w fun r w'=>r=.returned (.bool false)/\w'=w):=hid (by
  go_enter Tryz.func26,Tryz.ntmps26
  go_wp2_with fail;go_ret
  exact ⟨rfl,rfl⟩)
 go_enter Tryz.func16,Tryz.ntmps16
 go_wp2_with fail;refine HID.out.mono ?_;rintro r w1 ⟨rfl,rfl⟩;go_wp2_with fail;refine HF.out.mono ?_;rintro r w2 ⟨nb,cv,rfl,k2,B2,l2,f2,n2⟩;go_wp2_with fail;go_ret;exact ⟨nb,cv,rfl,k2,B2,l2,f2,n2⟩
end
