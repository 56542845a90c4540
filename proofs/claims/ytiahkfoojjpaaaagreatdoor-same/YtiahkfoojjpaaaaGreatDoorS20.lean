import Derived.Test.YtiahkfoojjpaaaaGreatDoorS10
set_option maxRecDepth 100000
set_option maxHeartbeats 16000000
set_option linter.all false
namespace Go.Proofs.YtiahkfoojjpaaaaGreatDoor
open Go.RowKit
theorem Tryz.JS:(Tryz.prog.info? 49).map (fun i=>(i.zero,i.size,i.bytes))=some (some (.slice none 0 0),1,24):=by kernel_rfl
theorem Tryz.N3:(Tryz.prog.info? 4).map (fun i=>(i.zero,i.size,i.bytes))=some (some (.bool false),1,1):=by kernel_rfl
def xU(sb:Nat)(A:Option Addr)(n c nr:Nat)(w:World):Prop:=w.cell? ⟨sb,2,none⟩=some (.slice A n c)/\w.cell? ⟨sb,3,none⟩=some (.int .i64 nr)
theorem xU.kp{sb n c nr:Nat}{A:Option Addr}{v v':World}(h:xU sb A n c nr v)(k:Kp [] v v'):xU sb A n c nr v':=
 ⟨(k.cell (p:=⟨sb,2,none⟩) (World.block_lt_of_cell? _ _ h.1) (by simp)).trans h.1,(k.cell (p:=⟨sb,3,none⟩) (World.block_lt_of_cell? _ _ h.2) (by simp)).trans h.2⟩
section
variable {ops:Array Oper}{o:Oper}{a:Act}{w:World}{K:Act->World->Prop}{Q:Exit->Act->World->Prop}{E:Prop}{n:Nat}
theorem makeF(hg:o.guard=none)(ho:o.op=.makeSlice 99 (.tmp 12) (.tmp 12))(hx:a.eval (.tmp 12)=.int .i64 n)(hn:n<=2000)(h:∀w',w'.heap[w.heap.size]? = some (.cells (madeCells #[.slice none 0 0] n) 49)->Kp [] w w'->K (a.put o.dst (.slice (some ⟨w.heap.size,0,none⟩) n n)) w'):if Region.wanted o (yielded ops a.tmps)=true then Oper.wp Tryz.prog o a w K Q else E:=by
 obtain⟨i0,h0,h1,h2,h3⟩:=info_parts Tryz.JS;exact ym hg _ _ _ ho n hx hx _ i0 (.slice none 0 0) Tryz.underlying99 h0 h1 h2 (by rw[h3];omega) (by omega) h
theorem makeR(hg:o.guard=none)(ho:o.op=.makeSlice 102 (.tmp 18) (.tmp 18))(hx:a.eval (.tmp 18)=.int .i64 n)(hn:n<=2000)(h:∀w',w'.heap[w.heap.size]? = some (.cells (madeCells #[.bool false] n) 4)->Kp [] w w'->K (a.put o.dst (.slice (some ⟨w.heap.size,0,none⟩) n n)) w'):if Region.wanted o (yielded ops a.tmps)=true then Oper.wp Tryz.prog o a w K Q else E:=by
 obtain⟨i0,h0,h1,h2,h3⟩:=info_parts Tryz.N3;exact ym hg _ _ _ ho n hx hx _ i0 (.bool false) Tryz.underlying102 h0 h1 h2 (by rw[h3];omega) (by omega) h
end
theorem new_v{w:World}{sb lo hi:Nat}{σ:Sst}{ah:Bool}(hs:Scr lo hi w sb 0 σ)(hah:∀wx,Kp [] w wx->Calls Tryz.prog 24 #[.pointer (some ⟨sb,0,none⟩)] wx fun r w'=>r=.returned (.bool ah)/\Kp [] wx w')(hn:σ.ns.length<=2000)(hrg:σ.ranges<=2000):Calls Tryz.prog 25 #[.pointer (some ⟨sb,0,none⟩)] w fun r w'=>∃mb db fb rb,r=.returned (.pointer (some ⟨mb,0,none⟩))/\Mac w w' mb sb db (oh ah fb σ.ns.length rb σ.ranges):=by
 have HAH:=hid hah;obtain⟨A,c,e,_,_⟩:=aZ hs.o5;obtain⟨n,hnn⟩:∃n,n=σ.ns.length:=⟨_,rfl⟩;obtain⟨nr,hnr⟩:∃nr,nr=σ.ranges:=⟨_,rfl⟩;have c2:w.cell? ⟨sb,2,none⟩=some σ.vn:=by simpa using hs.c2
 have c3:w.cell? ⟨sb,3,none⟩=some (.int .i64 σ.ranges):=by simpa using hs.c3
 rw[e] at c2;rw[<-hnn] at c2 hn ⊢;rw[<-hnr] at c3 hrg ⊢;clear hah e hnn hnr hs;go_enter Tryz.func25,Tryz.ntmps25
 go_upto_region 1 with fail
 go_cut [2] from 3 (fun v wx=>∃mb db fb rb,v=.pointer (some ⟨mb,0,none⟩)/\Mac w wx mb sb db (oh ah fb n rb nr))
 case first=>
  have hS:xU sb A n c nr w.drew:=⟨c2,c3⟩;have k0:Kp [] w w.drew:=Kp.drew _ _;clear c2 c3;refine az (xU sb A n c nr) 19 (by kernel_rfl) ?_;obtain⟨v,hv⟩:∃v,v=w.drew:=⟨_,rfl⟩;rw[<-hv] at hS k0 ⊢;clear hv;have S:=hS;have k:=k0;clear hS k0;refine tk1 0 (v:=?_) rfl (by kernel_rfl) (fun _ _ _ h=>h) ⟨rfl,fun w hSw=>?_⟩ S ?_;rotate_left;· (unfold xU at hSw;go_simp;(try with_reducible rfl))
  refine tk1 2 (v:=?_) rfl (by kernel_rfl) (fun _ _ _ h=>h) ⟨rfl,fun w hSw=>?_⟩ S ?_;rotate_left;· (unfold xU at hSw;go_simp;(try with_reducible rfl))
  refine tk1 5 (v:=?_) rfl (by kernel_rfl) (fun _ _ _ h=>h) ⟨rfl,fun w hSw=>?_⟩ S ?_;rotate_left;· (unfold xU at hSw;go_simp;(try with_reducible rfl))
  refine tk1 6 (v:=?_) rfl (by kernel_rfl) (fun _ _ _ h=>h) ⟨rfl,fun w hSw=>?_⟩ S ?_;rotate_left;· (unfold xU at hSw;go_simp;(try with_reducible rfl))
  refine tk1 7 (v:=?_) rfl (by kernel_rfl) (fun _ _ _ h=>h) ⟨rfl,fun w hSw=>?_⟩ S ?_;rotate_left;· (unfold xU at hSw;go_simp;(try with_reducible rfl))
  refine tk1 8 (v:=?_) rfl (by kernel_rfl) (fun _ _ _ h=>h) ⟨rfl,fun w hSw=>?_⟩ S ?_;rotate_left;· (unfold xU at hSw;go_simp;(try with_reducible rfl))
  refine tk1 9 (v:=?_) rfl (by kernel_rfl) (fun _ _ _ h=>h) ⟨rfl,fun w hSw=>?_⟩ S ?_;rotate_left;· (unfold xU at hSw;go_simp;(try with_reducible rfl))
  refine tk1 12 (v:=?_) rfl (by kernel_rfl) (fun _ _ _ h=>h) ⟨rfl,fun w hSw=>?_⟩ S ?_;rotate_left;· (unfold xU at hSw;go_simp;(try with_reducible rfl))
  refine tk1 13 (v:=?_) rfl (by kernel_rfl) (fun _ _ _ h=>h) ⟨rfl,fun w hSw=>?_⟩ S ?_;rotate_left;· (unfold xU at hSw;go_simp;(try with_reducible rfl))
  refine tk1 14 (v:=?_) rfl (by kernel_rfl) (fun _ _ _ h=>h) ⟨rfl,fun w hSw=>?_⟩ S ?_;rotate_left;· (unfold xU at hSw;go_simp;(try with_reducible rfl))
  refine tk1 15 (v:=?_) rfl (by kernel_rfl) (fun _ _ _ h=>h) ⟨rfl,fun w hSw=>?_⟩ S ?_;rotate_left;· (unfold xU at hSw;go_simp;(try with_reducible rfl))
  simp only[Qt,Qs,Qr,Act.put,Qq,Qu,Qv]
  iterate 4
   all_goals first
    | refine nX (i:=1) (j:=10) (k:=16) (by decide +kernel) rfl rfl rfl (fun K hK=>?_) (fun K hK=>?_) (fun K hK=>?_)
    | refine nX (i:=3) (j:=10) (k:=16) (by decide +kernel) rfl rfl rfl (fun K hK=>?_) (fun K hK=>?_) (fun K hK=>?_)
    | refine fh (i:=1) (j:=16) (by decide +kernel) rfl rfl (fun K hK=>?_) (fun K hK=>?_)
    | refine fh (i:=1) (j:=10) (by decide +kernel) rfl rfl (fun K hK=>?_) (fun K hK=>?_)
    | refine fh (i:=10) (j:=16) (by decide +kernel) rfl rfl (fun K hK=>?_) (fun K hK=>?_)
    | refine fh (i:=3) (j:=16) (by decide +kernel) rfl rfl (fun K hK=>?_) (fun K hK=>?_)
    | refine fh (i:=3) (j:=10) (by decide +kernel) rfl rfl (fun K hK=>?_) (fun K hK=>?_)
    | refine ai (i:=1) (by decide +kernel) rfl (fun K hK=>?_)
    | refine ai (i:=16) (by decide +kernel) rfl (fun K hK=>?_)
    | refine ai (i:=10) (by decide +kernel) rfl (fun K hK=>?_)
    | refine ai (i:=3) (by decide +kernel) rfl (fun K hK=>?_)
   all_goals first
    | (refine makeF (by rfl) (by rfl) (by rfl) (by omega) ?_
       obtain⟨fb,h⟩:∃fb,fb=v.heap.size:=⟨_,rfl⟩;intro v ff kd;rw[<-h] at ff ⊢;have lf:w.heap.size<=fb:=h ▸ k.size;try have ndf:db≠fb:=by have:=aN fd;omega
       try have nfr:fb≠rb:=by have:=aN fr;omega
       clear h;try replace fd:=(kd.block db (aN fd) (by simp)).trans fd
       try replace fr:=(kd.block rb (aN fr) (by simp)).trans fr
       replace S:=S.kp kd;replace k:=k.trans kd;refine hK.out _ _ (.inr S) ?_;clear hK K kd;try simp only[Qt,Qs,Qr,Act.put,Qq,Qu,Qv]
       refine tk1 11 (v:=?_) rfl (by kernel_rfl) (fun _ _ _ h=>h) ⟨rfl,fun w hSw=>?_⟩ S ?_;rotate_left;· (unfold xU at hSw;go_simp;(try with_reducible rfl))
       simp only[Qt,Qs,Qr,Act.put,Qq,Qu,Qv])
    | (refine makeR (by rfl) (by rfl) (by rfl) (by omega) ?_
       obtain⟨rb,h⟩:∃rb,rb=v.heap.size:=⟨_,rfl⟩;intro v fr kd;rw[<-h] at fr ⊢;have lr:w.heap.size<=rb:=h ▸ k.size;try have ndr:db≠rb:=by have:=aN fd;omega
       try have nfr:fb≠rb:=by have:=aN ff;omega
       clear h;try replace fd:=(kd.block db (aN fd) (by simp)).trans fd
       try replace ff:=(kd.block fb (aN ff) (by simp)).trans ff
       replace S:=S.kp kd;replace k:=k.trans kd;refine hK.out _ _ (.inr S) ?_;clear hK K kd
       try simp only[Qt,Qs,Qr,Act.put,Qq,Qu,Qv])
    | (go_simp
       refine(Ko v).mono ?_;obtain⟨db,h⟩:∃db,db=v.heap.size:=⟨_,rfl⟩;rintro q v ⟨rfl,fd,kd⟩;dsimp only;rw[<-h] at fd ⊢;have ld:w.heap.size<=db:=h ▸ k.size;try have ndf:db≠fb:=by have:=aN ff;omega
       try have ndr:db≠rb:=by have:=aN fr;omega
       clear h;try replace ff:=(kd.block fb (aN ff) (by simp)).trans ff
       try replace fr:=(kd.block rb (aN fr) (by simp)).trans fr
       replace S:=S.kp kd;replace k:=k.trans kd;refine hK.out _ _ (.inr S) ?_;clear hK K kd
       try simp only[Qt,Qs,Qr,Act.put,Qq,Qu,Qv])
    | (go_simp
       refine(HAH.out v k).mono ?_;rintro q v ⟨rfl,kd⟩;dsimp only;try replace fd:=(kd.block db (aN fd) (by simp)).trans fd
       try replace ff:=(kd.block fb (aN ff) (by simp)).trans ff
       try replace fr:=(kd.block rb (aN fr) (by simp)).trans fr
       replace S:=S.kp kd;replace k:=k.trans kd;refine hK.out _ _ (.inr S) ?_;clear hK K kd;try simp only[Qt,Qs,Qr,Act.put,Qq,Qu,Qv]
       refine tk1 4 (v:=?_) rfl (by kernel_rfl) (fun _ _ _ h=>h) ⟨rfl,fun w hSw=>?_⟩ S ?_;rotate_left;· (unfold xU at hSw;go_simp;(try with_reducible rfl))
       simp only[Qt,Qs,Qr,Act.put,Qq,Qu,Qv])
  all_goals
   refine ai (i:=17) (by kernel_rfl) rfl (fun K hK=>?_);go_simp;refine hK.out _ _ (.inr S) ?_;clear hK K;refine ai (i:=18) (by kernel_rfl) rfl (fun K hK=>?_);go_simp;refine hK.out _ _ (.inr (S.kp (Kp.alloc [] v _))) ?_;clear hK K;refine ai (i:=19) (by kernel_rfl) rfl (fun K hK=>?_);go_simp;refine hK.out _ _ (.inl rfl) ?_;clear hK K;refine ax (by kernel_rfl) ?_ _;go_wp2_with fail;go_meet
   case rel=>exact⟨_,db,fb,rb,rfl,mac_new (ah:=ah) (sb:=sb) k fd ff fr ld lf lr ndf ndr nfr (by omega) (by omega)⟩
 case rest=>
 obtain⟨mb,db,fb,rb,rfl,hm⟩:=hcut;go_wp2_with fail;go_ret;exact⟨mb,db,fb,rb,rfl,hm⟩
section
variable {w0 w w' w2:World}{mb sb db lo hi:Nat}{s s':Mst}{σ:Sst}
theorem PO(mb db:Nat)(r:Mrw)(rg:List Bool):maB mb db { r with rg:=rg}=maB mb db r:=by
 funext j
 rcases j with _|_|_|_|_|_|j<;>rfl
theorem Mac.Io{i g c:Nat}(h:Mac w0 w mb sb db s)(hg:s.r.vr=.slice (some ⟨g,0,none⟩) s.r.rg.length c)(b:Bool):Mac w0 (w.setCell ⟨g,i,none⟩ (.bool b)) mb sb db { s with r:={ s.r with rg:=s.r.rg.set i b}}/\Gr mb db w s.r (w.setCell ⟨g,i,none⟩ (.bool b)) { s.r with rg:=s.r.rg.set i b}:=by
 have m4:maB mb db s.r 4=some g:=by show s.r.vr.ownBlock=_;rw[hg];rfl
 have gm:g≠mb:=fun e=>by have:=h.r.bk.ne 4 0 g m4 (by rw[e];rfl);omega
 have ks:Kp [g] w (w.setCell ⟨g,i,none⟩ (.bool b)):=Kp.setCell _ _ (by simp);have hh:∀j p,j≠4->maB mb db s.r j=some p->(w.setCell ⟨g,i,none⟩ (.bool b)).heap[p]? = w.heap[p]?:=fun j p h4 hp=>ks.block p (h.r.bk.hi j p hp) (fun e=>h4 (h.r.bk.ne j 4 p hp (by simp at e;rw[e];exact m4)));have lo0:=h.r.kp.size;refine⟨⟨h.b.aj ks (by simpa using Ne.symm gm),⟨⟨ks.os.trans h.r.kp.os,ks.tape.trans h.r.kp.tape,ks.output.trans h.r.kp.output,QC lo0 ks.size,fun j hj _=>(ks.block j (Qx hj lo0) (fun e=>?_)).trans (h.r.kp.block j hj (by simp))⟩,ag h.r.o2 (fun p hp=>hh 2 p (by omega) hp),ag h.r.o3 (fun p hp=>hh 3 p (by omega) hp),fun j u hu=>?_,?_,ag h.r.o5 (fun p hp=>hh 5 p (by omega) hp),(hh 1 _ (by omega) rfl).trans h.r.md,by rw[PO];exact h.r.bk.grow ks.size,h.r.fll⟩⟩,?_⟩
 .have:=h.r.bk.lo 4 g m4;simp at e;omega
 .obtain⟨bs,h1,h2⟩:=h.r.ofl j u hu;exact⟨bs,h1,ag h2 (fun p hp=>hh (j+6) p (by omega) (show(s.r.fl[j]?).bind Value.ownBlock=some p by rw[hu];exact hp))⟩
 .have o:=h.r.o4;show World.ownsRow _ _ _ 1 s.r.vr (s.r.rg.set i b).length ((s.r.rg.set i b).map .bool);rw[Rg,List.map_set,hg];rw[hg] at o;exact(o.stored i (.bool b)).1
 .refine⟨ks.size,fun j p hp=>?_,fun p hp hn=>ks.block p hp (fun e=>hn 4 (by simp at e;rw[e];exact m4))⟩;rw[PO] at hp;exact .inl ⟨j,hp⟩
theorem Mac.AQ{i:Nat}{b:Bool}(h:Mac w0 w mb sb db s)(hb:s.r.rg[i]? = some b):∃g c,s.r.vr=.slice (some ⟨g,0,none⟩) s.r.rg.length c/\w.cell? ⟨g,i,none⟩=some (.bool b)/\(∀j,w.frozen? ⟨g,j,none⟩=false):=by
 have hi:=(List.getElem?_eq_some_iff.1 hb).1;rcases h.r.o4.2 with⟨_,q⟩|⟨g,cap,cur,q1,q2,q3,q4⟩
 .omega
 .have o:=h.r.o4;rw[q1] at o;refine⟨g,cap,q1,?_,fun j=>?_⟩
  .rw[o.cellAt i (by omega),QX,hb];rfl
  .simp[World.frozen?,q3]
def Al(mb:Nat)(w:World)(ap o:Nat)(b:Bool):Prop:=∀wx,Kp [] w wx->Calls Tryz.prog 158 #[.pointer (some ⟨mb,0,none⟩),.pointer (some ⟨ap,o,none⟩)] wx fun r w'=>r=.returned (.bool b)/\Kp [] wx w'
theorem Ix{g o n:Nat}{b:Bool}(h:Mac w0 w mb sb db s)(h0:w.cell? ⟨g,o,none⟩=some (.int .i64 0))(h1:w.cell? ⟨g,o+1,none⟩=some (.int .i64 n))(hb:((s.number:Int)==(n:Int))=b):Al mb w g o b:=by
 intro wx kx;have hl:=World.block_lt_of_cell? _ _ h0;have c8:=(h.aj kx).b.at_ 8 _ rfl;have d0:=(kx.cell (p:=⟨g,o,none⟩) hl (by simp)).trans h0;have d1:=(kx.cell (p:=⟨g,o+1,none⟩) hl (by simp)).trans h1;clear h0 h1;go_enter Tryz.func158,Tryz.ntmps158
 go_wp2_with fail;go_quiet (fail);go_wp2_with fail;go_ret;exact⟨rfl,Kp.drewN _ _ _⟩
structure Two(w:World)(ca co ap i kd n2:Nat):Prop where
 c0:∃cap,w.cell? ⟨ca,co,none⟩=some (.slice (some ⟨ap,0,none⟩) 2 cap)
 c1:w.cell? ⟨ca,co+1,none⟩=some (.int .i64 i)
 a4:w.cell? ⟨ap,4,none⟩=some (.int .i64 kd)
 a5:w.cell? ⟨ap,5,none⟩=some (.int .i64 n2)
theorem Two.aj{ca co ap i kd n2:Nat}(h:Two w ca co ap i kd n2)(k:Kp [] w w'):Two w' ca co ap i kd n2:=by
 obtain⟨cap,h0⟩:=h.c0;exact⟨⟨cap,(k.cell (World.block_lt_of_cell? _ _ h0) (by simp)).trans h0⟩,(k.cell (World.block_lt_of_cell? _ _ h.c1) (by simp)).trans h.c1,(k.cell (World.block_lt_of_cell? _ _ h.a4) (by simp)).trans h.a4,(k.cell (World.block_lt_of_cell? _ _ h.a5) (by simp)).trans h.a5⟩
def Pst.rgd(p:Pst)(i:Nat)(b:Bool):Pst:={ p with rg:=p.rg.set i b}
theorem uz{ca co ap i n2:Nat}(h:Mac w0 w mb sb db s)(hT:Two w ca co ap i 0 n2)(hg:s.r.rg[i]? = some true):Calls Tryz.prog 159 #[.pointer (some ⟨mb,0,none⟩),.pointer (some ⟨ca,co,none⟩)] w fun r w'=>r=.returned (.bool true)/\di w0 mb sb db w s w' (s.p.rgd i (decide (s.number<n2))):=by
 obtain⟨cap,c0⟩:=hT.c0;obtain⟨g,cg,evr,hcg,_⟩:=h.AQ hg;have hi:i<s.r.rg.length:=(List.getElem?_eq_some_iff.1 hg).1;obtain⟨n,hnl⟩:∃n,n=s.r.rg.length:=⟨_,rfl⟩;have c1:=hT.c1;have c11:=h.b.at_ 11 _ rfl;rw[evr,<-hnl] at c11;rw[<-hnl] at hi;have HM:=hid h;have HT:=hid hT;have HEV:=hid evr;have HG:=hid hg;clear h hT hcg evr hg hnl;go_enter Tryz.func159,Tryz.ntmps159
 go_wp2_with fail;go_quiet (fail);have d11:(w.drewN nq).cell? ⟨mb,11,none⟩=_:=c11;have d1:(w.drewN nq).cell? ⟨ca,co+1,none⟩=_:=c1;have ka:=Kp.drewN [] w nq;obtain⟨wa,hwa⟩:∃wa,wa=w.drewN nq:=⟨_,rfl⟩;rw[<-hwa] at d11 d1 ka ⊢;clear hwa c0 c1 c11;go_wp2_with fail;go_quiet (fail);have kb:=ka.trans (Kp.drewN [] wa nq);obtain⟨wb,hwb⟩:∃wb,wb=wa.drewN nq:=⟨_,rfl⟩;rw[<-hwb] at kb ⊢;clear hwb d11 d1 ka;have hTb:=HT.out.aj kb;have hMb:=HM.out.aj kb;have a4:=hTb.a4;obtain⟨g',cg',evr',hcg,_⟩:=hMb.AQ HG.out;obtain rfl:g'=g:=by rw[HEV.out] at evr';injection evr' with e _ _;injection e with e;injection e with e;exact e.symm
 clear hTb hMb evr';go_wp2_with fail;have kc:=kb;obtain⟨wc,hwc⟩:∃wc,wc=wb:=⟨_,rfl⟩;rw[<-hwc] at kc hcg;have kd:=kc.trans (Kp.drew [] wc);have hM:=HM.out.aj kd;have hTd:=HT.out.aj kd;obtain⟨g2,cg2,evr2,hcg2,hfr⟩:=hM.AQ HG.out;obtain rfl:g2=g':=by rw[HEV.out] at evr2;injection evr2 with e _ _;injection e with e;injection e with e;exact e.symm
 have FIN:=hid (hM.Io (i:=i) evr2 (decide (s.number<n2)));have hS:(fun w':World=>w'.cell? ⟨mb,8,none⟩=some (.int .i64 s.number)/\w'.cell? ⟨ap,5,none⟩=some (.int .i64 n2)) wc.drew:=⟨hM.b.at_ 8 _ rfl,hTd.a5⟩;have fi:=hfr i;obtain⟨wd,hwd⟩:∃wd,wd=wc.drew:=⟨_,rfl⟩;rw[<-hwd] at kd hcg2 fi FIN hS;clear hM hTd evr2 hfr hcg a4;subst hwc;go_upto_region 5 with fail
 refine az (fun w':World=>w'.cell? ⟨mb,8,none⟩=some (.int .i64 s.number)/\w'.cell? ⟨ap,5,none⟩=some (.int .i64 n2)) 14 (by kernel_rfl) ?_;rw[<-hwd];clear hwd;have hdec:decide ((s.number:Int)<(n2:Int))=decide (s.number<n2):=by simp
 refine tk1 0 (v:=?_) rfl (by kernel_rfl) (fun _ _ _ h=>h) ⟨rfl,fun w hSw=>?_⟩ hS ?_;rotate_left;· ((try dsimp only at hSw);go_simp;(try with_reducible rfl))
 (try simp only[Qt,Qs,Qr,Act.put,Qq,Qu,Qv])
 refine tk1 1 (v:=?_) rfl (by kernel_rfl) (fun _ _ _ h=>h) ⟨rfl,fun w hSw=>?_⟩ hS ?_;rotate_left;· ((try dsimp only at hSw);go_simp;(try with_reducible rfl))
 (try simp only[Qt,Qs,Qr,Act.put,Qq,Qu,Qv])
 refine tk1 2 (v:=?_) rfl (by kernel_rfl) (fun _ _ _ h=>h) ⟨rfl,fun w hSw=>?_⟩ hS ?_;rotate_left;· ((try dsimp only at hSw);go_simp;(try with_reducible rfl))
 (try simp only[Qt,Qs,Qr,Act.put,Qq,Qu,Qv])
 refine tk1 3 (v:=?_) rfl (by kernel_rfl) (fun _ _ _ h=>h) ⟨rfl,fun w hSw=>?_⟩ hS ?_;rotate_left;· ((try dsimp only at hSw);go_simp;(try with_reducible rfl))
 (try simp only[Qt,Qs,Qr,Act.put,Qq,Qu,Qv])
 refine tk1 4 (v:=?_) rfl (by kernel_rfl) (fun _ _ _ h=>h) ⟨rfl,fun w hSw=>?_⟩ hS ?_;rotate_left;· ((try dsimp only at hSw);go_simp;(try with_reducible rfl))
 (try simp only[Qt,Qs,Qr,Act.put,Qq,Qu,Qv])
 refine tk1 5 (v:=?_) rfl (by kernel_rfl) (fun _ _ _ h=>h) ⟨rfl,fun w hSw=>?_⟩ hS ?_;rotate_left;· ((try dsimp only at hSw);go_simp;(try with_reducible rfl))
 (try simp only[Qt,Qs,Qr,Act.put,Qq,Qu,Qv])
 refine tk1 6 (v:=?_) rfl (by kernel_rfl) (fun _ _ _ h=>h) ⟨rfl,fun w hSw=>?_⟩ hS ?_;rotate_left;· ((try dsimp only at hSw);go_simp;(try with_reducible rfl))
 (try simp only[Qt,Qs,Qr,Act.put,Qq,Qu,Qv])
 refine tk1 7 (v:=?_) rfl (by kernel_rfl) (fun _ _ _ h=>h) ⟨rfl,fun w hSw=>?_⟩ hS ?_;rotate_left;· ((try dsimp only at hSw);go_simp;(try with_reducible rfl))
 (try simp only[Qt,Qs,Qr,Act.put,Qq,Qu,Qv])
 refine tk1 8 (v:=?_) rfl (by kernel_rfl) (fun _ _ _ h=>h) ⟨rfl,fun w hSw=>?_⟩ hS ?_;rotate_left;· ((try dsimp only at hSw);go_simp;(try with_reducible rfl))
 (try simp only[Qt,Qs,Qr,Act.put,Qq,Qu,Qv])
 refine tk1 9 (v:=?_) rfl (by kernel_rfl) (fun _ _ _ h=>h) ⟨rfl,fun w hSw=>?_⟩ hS ?_;rotate_left;· ((try dsimp only at hSw);go_simp;(try with_reducible rfl))
 (try simp only[Qt,Qs,Qr,Act.put,Qq,Qu,Qv])
 refine tk1 10 (v:=?_) rfl (by kernel_rfl) (fun _ _ _ h=>h) ⟨rfl,fun w hSw=>?_⟩ hS ?_;rotate_left;· ((try dsimp only at hSw);go_simp;(try with_reducible rfl))
 (try simp only[Qt,Qs,Qr,Act.put,Qq,Qu,Qv])
 refine tk1 11 (v:=?_) rfl (by kernel_rfl) (fun _ _ _ h=>h) ⟨rfl,fun w hSw=>?_⟩ hS ?_;rotate_left;· ((try dsimp only at hSw);go_simp;(try with_reducible rfl))
 (try simp only[Qt,Qs,Qr,Act.put,Qq,Qu,Qv])
 refine tk1 12 (v:=?_) rfl (by kernel_rfl) (fun _ _ _ h=>h) ⟨rfl,fun w hSw=>?_⟩ hS ?_;rotate_left;· ((try dsimp only at hSw);go_simp;(try with_reducible rfl))
 (try simp only[Qt,Qs,Qr,Act.put,Qq,Qu,Qv])
 refine tk1 13 (v:=?_) rfl (by kernel_rfl) (fun _ _ _ h=>h) ⟨rfl,fun w hSw=>?_⟩ hS ?_;rotate_left;· ((try dsimp only at hSw);go_simp;(try with_reducible rfl))
 (try simp only[Qt,Qs,Qr,Act.put,Qq,Qu,Qv])
 refine ai (i:=14) (by kernel_rfl) rfl (fun K hK=>?_);go_simp;refine hK.out _ _ (.inl rfl) ?_;clear hK K;refine ax (by kernel_rfl) ?_ _;go_wp2_with fail;go_ret;obtain⟨m3,g3⟩:=FIN.out;exact⟨rfl,_,rfl,m3,(Gr.dj (r:=s.r) kd (fun _ e=>by cases e)).trans g3⟩
theorem nv{ca co ap i n2:Nat}(h:Mac w0 w mb sb db s)(hT:Two w ca co ap i 0 n2)(hg:s.r.rg[i]? = some false)(h1:Al mb w ap 0 true):Calls Tryz.prog 159 #[.pointer (some ⟨mb,0,none⟩),.pointer (some ⟨ca,co,none⟩)] w fun r w'=>r=.returned (.bool true)/\di w0 mb sb db w s w' (s.p.rgd i (decide (s.number<n2))):=by
 obtain⟨cap,c0⟩:=hT.c0;obtain⟨g,cg,evr,hcg,_⟩:=h.AQ hg;have hi:i<s.r.rg.length:=(List.getElem?_eq_some_iff.1 hg).1;obtain⟨n,hnl⟩:∃n,n=s.r.rg.length:=⟨_,rfl⟩;have c1:=hT.c1;have c11:=h.b.at_ 11 _ rfl;rw[evr,<-hnl] at c11;rw[<-hnl] at hi;have HM:=hid h;have HT:=hid hT;have HEV:=hid evr;have HG:=hid hg;clear h hT hcg evr hg hnl;go_enter Tryz.func159,Tryz.ntmps159
 go_wp2_with fail;go_quiet (fail);have d11:(w.drewN nq).cell? ⟨mb,11,none⟩=_:=c11;have d1:(w.drewN nq).cell? ⟨ca,co+1,none⟩=_:=c1;have ka:=Kp.drewN [] w nq;obtain⟨wa,hwa⟩:∃wa,wa=w.drewN nq:=⟨_,rfl⟩;rw[<-hwa] at d11 d1 ka ⊢;clear hwa c0 c1 c11;go_wp2_with fail;go_quiet (fail);have kb:=ka.trans (Kp.drewN [] wa nq);obtain⟨wb,hwb⟩:∃wb,wb=wa.drewN nq:=⟨_,rfl⟩;rw[<-hwb] at kb ⊢;clear hwb d11 d1 ka;have hTb:=HT.out.aj kb;have hMb:=HM.out.aj kb;have a4:=hTb.a4;obtain⟨g',cg',evr',hcg,_⟩:=hMb.AQ HG.out;obtain rfl:g'=g:=by rw[HEV.out] at evr';injection evr' with e _ _;injection e with e;injection e with e;exact e.symm
 clear hTb hMb evr';go_wp2_with fail;refine(h1 _ kb).mono ?_;rintro r wc ⟨rfl,kc⟩;have kc:=kb.trans kc;have kd:=kc.trans (Kp.drew [] wc);have hM:=HM.out.aj kd;have hTd:=HT.out.aj kd;obtain⟨g2,cg2,evr2,hcg2,hfr⟩:=hM.AQ HG.out;obtain rfl:g2=g':=by rw[HEV.out] at evr2;injection evr2 with e _ _;injection e with e;injection e with e;exact e.symm
 have FIN:=hid (hM.Io (i:=i) evr2 (decide (s.number<n2)));have hS:(fun w':World=>w'.cell? ⟨mb,8,none⟩=some (.int .i64 s.number)/\w'.cell? ⟨ap,5,none⟩=some (.int .i64 n2)) wc.drew:=⟨hM.b.at_ 8 _ rfl,hTd.a5⟩;have fi:=hfr i;obtain⟨wd,hwd⟩:∃wd,wd=wc.drew:=⟨_,rfl⟩;rw[<-hwd] at kd hcg2 fi FIN hS;clear hM hTd evr2 hfr hcg a4;go_upto_region 5 with fail
 refine az (fun w':World=>w'.cell? ⟨mb,8,none⟩=some (.int .i64 s.number)/\w'.cell? ⟨ap,5,none⟩=some (.int .i64 n2)) 14 (by kernel_rfl) ?_;rw[<-hwd];clear hwd;have hdec:decide ((s.number:Int)<(n2:Int))=decide (s.number<n2):=by simp
 refine tk1 0 (v:=?_) rfl (by kernel_rfl) (fun _ _ _ h=>h) ⟨rfl,fun w hSw=>?_⟩ hS ?_;rotate_left;· ((try dsimp only at hSw);go_simp;(try with_reducible rfl))
 (try simp only[Qt,Qs,Qr,Act.put,Qq,Qu,Qv])
 refine tk1 1 (v:=?_) rfl (by kernel_rfl) (fun _ _ _ h=>h) ⟨rfl,fun w hSw=>?_⟩ hS ?_;rotate_left;· ((try dsimp only at hSw);go_simp;(try with_reducible rfl))
 (try simp only[Qt,Qs,Qr,Act.put,Qq,Qu,Qv])
 refine tk1 2 (v:=?_) rfl (by kernel_rfl) (fun _ _ _ h=>h) ⟨rfl,fun w hSw=>?_⟩ hS ?_;rotate_left;· ((try dsimp only at hSw);go_simp;(try with_reducible rfl))
 (try simp only[Qt,Qs,Qr,Act.put,Qq,Qu,Qv])
 refine tk1 3 (v:=?_) rfl (by kernel_rfl) (fun _ _ _ h=>h) ⟨rfl,fun w hSw=>?_⟩ hS ?_;rotate_left;· ((try dsimp only at hSw);go_simp;(try with_reducible rfl))
 (try simp only[Qt,Qs,Qr,Act.put,Qq,Qu,Qv])
 refine tk1 4 (v:=?_) rfl (by kernel_rfl) (fun _ _ _ h=>h) ⟨rfl,fun w hSw=>?_⟩ hS ?_;rotate_left;· ((try dsimp only at hSw);go_simp;(try with_reducible rfl))
 (try simp only[Qt,Qs,Qr,Act.put,Qq,Qu,Qv])
 refine tk1 5 (v:=?_) rfl (by kernel_rfl) (fun _ _ _ h=>h) ⟨rfl,fun w hSw=>?_⟩ hS ?_;rotate_left;· ((try dsimp only at hSw);go_simp;(try with_reducible rfl))
 (try simp only[Qt,Qs,Qr,Act.put,Qq,Qu,Qv])
 refine tk1 6 (v:=?_) rfl (by kernel_rfl) (fun _ _ _ h=>h) ⟨rfl,fun w hSw=>?_⟩ hS ?_;rotate_left;· ((try dsimp only at hSw);go_simp;(try with_reducible rfl))
 (try simp only[Qt,Qs,Qr,Act.put,Qq,Qu,Qv])
 refine tk1 7 (v:=?_) rfl (by kernel_rfl) (fun _ _ _ h=>h) ⟨rfl,fun w hSw=>?_⟩ hS ?_;rotate_left;· ((try dsimp only at hSw);go_simp;(try with_reducible rfl))
 (try simp only[Qt,Qs,Qr,Act.put,Qq,Qu,Qv])
 refine tk1 8 (v:=?_) rfl (by kernel_rfl) (fun _ _ _ h=>h) ⟨rfl,fun w hSw=>?_⟩ hS ?_;rotate_left;· ((try dsimp only at hSw);go_simp;(try with_reducible rfl))
 (try simp only[Qt,Qs,Qr,Act.put,Qq,Qu,Qv])
 refine tk1 9 (v:=?_) rfl (by kernel_rfl) (fun _ _ _ h=>h) ⟨rfl,fun w hSw=>?_⟩ hS ?_;rotate_left;· ((try dsimp only at hSw);go_simp;(try with_reducible rfl))
 (try simp only[Qt,Qs,Qr,Act.put,Qq,Qu,Qv])
 refine tk1 10 (v:=?_) rfl (by kernel_rfl) (fun _ _ _ h=>h) ⟨rfl,fun w hSw=>?_⟩ hS ?_;rotate_left;· ((try dsimp only at hSw);go_simp;(try with_reducible rfl))
 (try simp only[Qt,Qs,Qr,Act.put,Qq,Qu,Qv])
 refine tk1 11 (v:=?_) rfl (by kernel_rfl) (fun _ _ _ h=>h) ⟨rfl,fun w hSw=>?_⟩ hS ?_;rotate_left;· ((try dsimp only at hSw);go_simp;(try with_reducible rfl))
 (try simp only[Qt,Qs,Qr,Act.put,Qq,Qu,Qv])
 refine tk1 12 (v:=?_) rfl (by kernel_rfl) (fun _ _ _ h=>h) ⟨rfl,fun w hSw=>?_⟩ hS ?_;rotate_left;· ((try dsimp only at hSw);go_simp;(try with_reducible rfl))
 (try simp only[Qt,Qs,Qr,Act.put,Qq,Qu,Qv])
 refine tk1 13 (v:=?_) rfl (by kernel_rfl) (fun _ _ _ h=>h) ⟨rfl,fun w hSw=>?_⟩ hS ?_;rotate_left;· ((try dsimp only at hSw);go_simp;(try with_reducible rfl))
 (try simp only[Qt,Qs,Qr,Act.put,Qq,Qu,Qv])
 refine ai (i:=14) (by kernel_rfl) rfl (fun K hK=>?_);go_simp;refine hK.out _ _ (.inl rfl) ?_;clear hK K;refine ax (by kernel_rfl) ?_ _;go_wp2_with fail;go_ret;obtain⟨m3,g3⟩:=FIN.out;exact⟨rfl,_,rfl,m3,(Gr.dj (r:=s.r) kd (fun _ e=>by cases e)).trans g3⟩
theorem qY{ca co ap i n2:Nat}(h:Mac w0 w mb sb db s)(hT:Two w ca co ap i 0 n2)(hg:s.r.rg[i]? = some false)(h1:Al mb w ap 0 false):Calls Tryz.prog 159 #[.pointer (some ⟨mb,0,none⟩),.pointer (some ⟨ca,co,none⟩)] w fun r w'=>r=.returned (.bool false)/\di w0 mb sb db w s w' (s.p.rgd i false):=by
 obtain⟨cap,c0⟩:=hT.c0;obtain⟨g,cg,evr,hcg,_⟩:=h.AQ hg;have hi:i<s.r.rg.length:=(List.getElem?_eq_some_iff.1 hg).1;obtain⟨n,hnl⟩:∃n,n=s.r.rg.length:=⟨_,rfl⟩;have c1:=hT.c1;have c11:=h.b.at_ 11 _ rfl;rw[evr,<-hnl] at c11;rw[<-hnl] at hi;have HM:=hid h;have HT:=hid hT;have HEV:=hid evr;have HG:=hid hg;clear h hT hcg evr hg hnl;go_enter Tryz.func159,Tryz.ntmps159
 go_wp2_with fail;go_quiet (fail);have d11:(w.drewN nq).cell? ⟨mb,11,none⟩=_:=c11;have d1:(w.drewN nq).cell? ⟨ca,co+1,none⟩=_:=c1;have ka:=Kp.drewN [] w nq;obtain⟨wa,hwa⟩:∃wa,wa=w.drewN nq:=⟨_,rfl⟩;rw[<-hwa] at d11 d1 ka ⊢;clear hwa c0 c1 c11;go_wp2_with fail;go_quiet (fail);have kb:=ka.trans (Kp.drewN [] wa nq);obtain⟨wb,hwb⟩:∃wb,wb=wa.drewN nq:=⟨_,rfl⟩;rw[<-hwb] at kb ⊢;clear hwb d11 d1 ka;have hTb:=HT.out.aj kb;have hMb:=HM.out.aj kb;have a4:=hTb.a4;obtain⟨g',cg',evr',hcg,_⟩:=hMb.AQ HG.out;obtain rfl:g'=g:=by rw[HEV.out] at evr';injection evr' with e _ _;injection e with e;injection e with e;exact e.symm
 clear hTb hMb evr';go_wp2_with fail;refine(h1 _ kb).mono ?_;rintro r wc ⟨rfl,kc⟩;have kc:=kb.trans kc;have kd:=kc.trans (Kp.drew [] wc);have hM:=HM.out.aj kd;have hTd:=HT.out.aj kd;obtain⟨g2,cg2,evr2,hcg2,hfr⟩:=hM.AQ HG.out;obtain rfl:g2=g':=by rw[HEV.out] at evr2;injection evr2 with e _ _;injection e with e;injection e with e;exact e.symm
 have FIN:=hid (hM.Io (i:=i) evr2 false);have hS:(fun w':World=>w'.cell? ⟨mb,8,none⟩=some (.int .i64 s.number)/\w'.cell? ⟨ap,5,none⟩=some (.int .i64 n2)) wc.drew:=⟨hM.b.at_ 8 _ rfl,hTd.a5⟩;have fi:=hfr i;obtain⟨wd,hwd⟩:∃wd,wd=wc.drew:=⟨_,rfl⟩;rw[<-hwd] at kd hcg2 fi FIN hS;clear hM hTd evr2 hfr hcg a4;go_upto_region 5 with fail
 refine az (fun w':World=>w'.cell? ⟨mb,8,none⟩=some (.int .i64 s.number)/\w'.cell? ⟨ap,5,none⟩=some (.int .i64 n2)) 14 (by kernel_rfl) ?_;rw[<-hwd];clear hwd;refine tk1 0 (v:=?_) rfl (by kernel_rfl) (fun _ _ _ h=>h) ⟨rfl,fun w hSw=>?_⟩ hS ?_;rotate_left;· ((try dsimp only at hSw);go_simp;(try with_reducible rfl))
 (try simp only[Qt,Qs,Qr,Act.put,Qq,Qu,Qv])
 refine tk1 1 (v:=?_) rfl (by kernel_rfl) (fun _ _ _ h=>h) ⟨rfl,fun w hSw=>?_⟩ hS ?_;rotate_left;· ((try dsimp only at hSw);go_simp;(try with_reducible rfl))
 (try simp only[Qt,Qs,Qr,Act.put,Qq,Qu,Qv])
 refine tk1 2 (v:=?_) rfl (by kernel_rfl) (fun _ _ _ h=>h) ⟨rfl,fun w hSw=>?_⟩ hS ?_;rotate_left;· ((try dsimp only at hSw);go_simp;(try with_reducible rfl))
 (try simp only[Qt,Qs,Qr,Act.put,Qq,Qu,Qv])
 refine aS (i:=3) (v:=undef) rfl (by kernel_rfl) (by kernel_rfl) (by kernel_rfl) (by kernel_rfl) (fun _ _ _ h=>h) (Or.inr ⟨by rfl,rfl⟩) hS ?_;simp only[Qt,Qs,Qr,Act.put,Qq,Qu,Qv];refine aS (i:=4) (v:=undef) rfl (by kernel_rfl) (by kernel_rfl) (by kernel_rfl) (by kernel_rfl) (fun _ _ _ h=>h) (Or.inr ⟨by rfl,rfl⟩) hS ?_;simp only[Qt,Qs,Qr,Act.put,Qq,Qu,Qv];refine aS (i:=5) (v:=undef) rfl (by kernel_rfl) (by kernel_rfl) (by kernel_rfl) (by kernel_rfl) (fun _ _ _ h=>h) (Or.inr ⟨by rfl,rfl⟩) hS ?_;simp only[Qt,Qs,Qr,Act.put,Qq,Qu,Qv];refine aS (i:=6) (v:=undef) rfl (by kernel_rfl) (by kernel_rfl) (by kernel_rfl) (by kernel_rfl) (fun _ _ _ h=>h) (Or.inr ⟨by rfl,rfl⟩) hS ?_;simp only[Qt,Qs,Qr,Act.put,Qq,Qu,Qv];refine aS (i:=7) (v:=undef) rfl (by kernel_rfl) (by kernel_rfl) (by kernel_rfl) (by kernel_rfl) (fun _ _ _ h=>h) (Or.inr ⟨by rfl,rfl⟩) hS ?_;simp only[Qt,Qs,Qr,Act.put,Qq,Qu,Qv];refine aS (i:=8) (v:=undef) rfl (by kernel_rfl) (by kernel_rfl) (by kernel_rfl) (by kernel_rfl) (fun _ _ _ h=>h) (Or.inr ⟨by rfl,rfl⟩) hS ?_
 simp only[Qt,Qs,Qr,Act.put,Qq,Qu,Qv];refine aS (i:=9) (v:=undef) rfl (by kernel_rfl) (by kernel_rfl) (by kernel_rfl) (by kernel_rfl) (fun _ _ _ h=>h) (Or.inr ⟨by rfl,rfl⟩) hS ?_;simp only[Qt,Qs,Qr,Act.put,Qq,Qu,Qv];refine aS (i:=10) (v:=undef) rfl (by kernel_rfl) (by kernel_rfl) (by kernel_rfl) (by kernel_rfl) (fun _ _ _ h=>h) (Or.inr ⟨by rfl,rfl⟩) hS ?_;simp only[Qt,Qs,Qr,Act.put,Qq,Qu,Qv];refine aS (i:=11) (v:=undef) rfl (by kernel_rfl) (by kernel_rfl) (by kernel_rfl) (by kernel_rfl) (fun _ _ _ h=>h) (Or.inr ⟨by rfl,rfl⟩) hS ?_;simp only[Qt,Qs,Qr,Act.put,Qq,Qu,Qv];refine tk1 12 (v:=?_) rfl (by kernel_rfl) (fun _ _ _ h=>h) ⟨rfl,fun w hSw=>?_⟩ hS ?_;rotate_left;· ((try dsimp only at hSw);go_simp;(try with_reducible rfl))
 (try simp only[Qt,Qs,Qr,Act.put,Qq,Qu,Qv])
 refine tk1 13 (v:=?_) rfl (by kernel_rfl) (fun _ _ _ h=>h) ⟨rfl,fun w hSw=>?_⟩ hS ?_;rotate_left;· ((try dsimp only at hSw);go_simp;(try with_reducible rfl))
 (try simp only[Qt,Qs,Qr,Act.put,Qq,Qu,Qv])
 refine ai (i:=14) (by kernel_rfl) rfl (fun K hK=>?_);go_simp;refine hK.out _ _ (.inl rfl) ?_;clear hK K;refine ax (by kernel_rfl) ?_ _;go_wp2_with fail;go_ret;obtain⟨m3,g3⟩:=FIN.out;exact⟨rfl,_,rfl,m3,(Gr.dj (r:=s.r) kd (fun _ e=>by cases e)).trans g3⟩
theorem yE{ca co ap i kd n2:Nat}{b:Bool}(h:Mac w0 w mb sb db s)(hT:Two w ca co ap i kd n2)(hkd:kd≠0)(hg:s.r.rg[i]? = some true)(h1:Al mb w ap 4 b):Calls Tryz.prog 159 #[.pointer (some ⟨mb,0,none⟩),.pointer (some ⟨ca,co,none⟩)] w fun r w'=>r=.returned (.bool true)/\di w0 mb sb db w s w' (s.p.rgd i (!b)):=by
 obtain⟨cap,c0⟩:=hT.c0;obtain⟨g,cg,evr,hcg,_⟩:=h.AQ hg;have hi:i<s.r.rg.length:=(List.getElem?_eq_some_iff.1 hg).1;obtain⟨n,hnl⟩:∃n,n=s.r.rg.length:=⟨_,rfl⟩;have c1:=hT.c1;have c11:=h.b.at_ 11 _ rfl;rw[evr,<-hnl] at c11;rw[<-hnl] at hi;have HM:=hid h;have HT:=hid hT;have HEV:=hid evr;have HG:=hid hg;clear h hT hcg evr hg hnl;go_enter Tryz.func159,Tryz.ntmps159
 go_wp2_with fail;go_quiet (fail);have d11:(w.drewN nq).cell? ⟨mb,11,none⟩=_:=c11;have d1:(w.drewN nq).cell? ⟨ca,co+1,none⟩=_:=c1;have ka:=Kp.drewN [] w nq;obtain⟨wa,hwa⟩:∃wa,wa=w.drewN nq:=⟨_,rfl⟩;rw[<-hwa] at d11 d1 ka ⊢;clear hwa c0 c1 c11;go_wp2_with fail;go_quiet (fail);have kb:=ka.trans (Kp.drewN [] wa nq);obtain⟨wb,hwb⟩:∃wb,wb=wa.drewN nq:=⟨_,rfl⟩;rw[<-hwb] at kb ⊢;clear hwb d11 d1 ka;have hTb:=HT.out.aj kb;have hMb:=HM.out.aj kb;have a4:=hTb.a4;obtain⟨g',cg',evr',hcg,_⟩:=hMb.AQ HG.out;obtain rfl:g'=g:=by rw[HEV.out] at evr';injection evr' with e _ _;injection e with e;injection e with e;exact e.symm
 clear hTb hMb evr';have hk0:((kd:Int)==0)=false:=by rw[Qz];omega
 go_wp2_with fail;refine(h1 _ kb).mono ?_;rintro r wc ⟨rfl,kc⟩;have kd:=kb.trans kc;have hM:=HM.out.aj kd;obtain⟨g2,cg2,evr2,hcg2,hfr⟩:=hM.AQ HG.out;obtain rfl:g2=g':=by rw[HEV.out] at evr2;injection evr2 with e _ _;injection e with e;injection e with e;exact e.symm
 have FIN:=hid (hM.Io (i:=i) evr2 (!b));have fi:=hfr i;clear hM evr2 hfr hcg a4 HM HT
 cases b
 all_goals
  go_wp2_with fail;go_ret;obtain⟨m3,g3⟩:=FIN.out;exact⟨rfl,_,rfl,m3,(Gr.dj (r:=s.r) kd (fun _ e=>by cases e)).trans g3⟩
theorem rQ{ca co ap i kd n2:Nat}{b:Bool}(h:Mac w0 w mb sb db s)(hT:Two w ca co ap i kd n2)(hkd:kd≠0)(hg:s.r.rg[i]? = some false)(h1:Al mb w ap 0 b):Calls Tryz.prog 159 #[.pointer (some ⟨mb,0,none⟩),.pointer (some ⟨ca,co,none⟩)] w fun r w'=>r=.returned (.bool b)/\di w0 mb sb db w s w' (s.p.rgd i b):=by
 obtain⟨cap,c0⟩:=hT.c0;obtain⟨g,cg,evr,hcg,_⟩:=h.AQ hg;have hi:i<s.r.rg.length:=(List.getElem?_eq_some_iff.1 hg).1;obtain⟨n,hnl⟩:∃n,n=s.r.rg.length:=⟨_,rfl⟩;have c1:=hT.c1;have c11:=h.b.at_ 11 _ rfl;rw[evr,<-hnl] at c11;rw[<-hnl] at hi;have HM:=hid h;have HT:=hid hT;have HEV:=hid evr;have HG:=hid hg;clear h hT hcg evr hg hnl;go_enter Tryz.func159,Tryz.ntmps159
 go_wp2_with fail;go_quiet (fail);have d11:(w.drewN nq).cell? ⟨mb,11,none⟩=_:=c11;have d1:(w.drewN nq).cell? ⟨ca,co+1,none⟩=_:=c1;have ka:=Kp.drewN [] w nq;obtain⟨wa,hwa⟩:∃wa,wa=w.drewN nq:=⟨_,rfl⟩;rw[<-hwa] at d11 d1 ka ⊢;clear hwa c0 c1 c11;go_wp2_with fail;go_quiet (fail);have kb:=ka.trans (Kp.drewN [] wa nq);obtain⟨wb,hwb⟩:∃wb,wb=wa.drewN nq:=⟨_,rfl⟩;rw[<-hwb] at kb ⊢;clear hwb d11 d1 ka;have hTb:=HT.out.aj kb;have hMb:=HM.out.aj kb;have a4:=hTb.a4;obtain⟨g',cg',evr',hcg,_⟩:=hMb.AQ HG.out;obtain rfl:g'=g:=by rw[HEV.out] at evr';injection evr' with e _ _;injection e with e;injection e with e;exact e.symm
 clear hTb hMb evr';have hk0:((kd:Int)==0)=false:=by rw[Qz];omega
 go_wp2_with fail;refine(h1 _ kb).mono ?_;rintro r wc ⟨rfl,kc⟩;have kd:=kb.trans kc;have hM:=HM.out.aj kd;obtain⟨g2,cg2,evr2,hcg2,hfr⟩:=hM.AQ HG.out;obtain rfl:g2=g':=by rw[HEV.out] at evr2;injection evr2 with e _ _;injection e with e;injection e with e;exact e.symm
 have FIN:=hid (hM.Io (i:=i) evr2 b);have fi:=hfr i;clear hM evr2 hfr hcg a4 HM HT
 cases b
 all_goals
  go_wp2_with fail;go_ret;obtain⟨m3,g3⟩:=FIN.out;exact⟨rfl,_,rfl,m3,(Gr.dj (r:=s.r) kd (fun _ e=>by cases e)).trans g3⟩
end
