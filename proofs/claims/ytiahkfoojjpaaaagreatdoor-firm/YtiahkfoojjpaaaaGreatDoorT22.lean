import Derived.Test.YtiahkfoojjpaaaaGreatDoorT12
set_option maxRecDepth 100000
set_option maxHeartbeats 16000000
set_option linter.all false
namespace Go.Proofs.YtiahkfoojjpaaaaGreatDoor
open Go.RowKit
theorem Tryz.Hv:(Tryz.prog.info? 49).map (fun i=>(i.zero,i.size,i.bytes))=some (some (.slice none 0 0),1,24):=by kernel_rfl
theorem Tryz.KX:(Tryz.prog.info? 4).map (fun i=>(i.zero,i.size,i.bytes))=some (some (.bool false),1,1):=by kernel_rfl
def uh (sb:Nat) (A:Option Addr) (n c nr:Nat) (w:World):Prop:=w.cell? ⟨sb,2,none⟩=some (.slice A n c)/\w.cell? ⟨sb,3,none⟩=some (.int .i64 nr)
theorem uh.kp {sb n c nr:Nat} {A:Option Addr} {v v':World} (h:uh sb A n c nr v) (k:Kp [] v v'):uh sb A n c nr v':=
 ⟨(k.cell (p:=⟨sb,2,none⟩) (World.block_lt_of_cell? _ _ h.1) (by simp)).trans h.1,(k.cell (p:=⟨sb,3,none⟩) (World.block_lt_of_cell? _ _ h.2) (by simp)).trans h.2⟩
section
variable {ops:Array Oper} {o:Oper} {a:Act} {w:World} {K:Act->World->Prop} {Q:Exit->Act->World->Prop} {E:Prop} {n:Nat}
theorem makeF (hg:o.guard=none) (ho:o.op=.makeSlice 99 (.tmp 12) (.tmp 12)) (hx:a.eval (.tmp 12)=.int .i64 n) (hn:n<=2000)
  (h:∀ w',w'.heap[w.heap.size]? = some (.cells (madeCells #[.slice none 0 0] n) 49)->Kp [] w w'->K (a.put o.dst (.slice (some ⟨w.heap.size,0,none⟩) n n)) w'):if Region.wanted o (yielded ops a.tmps)=true then Oper.wp Tryz.prog o a w K Q else E:=by
 obtain ⟨i0,h0,h1,h2,h3⟩:=info_parts Tryz.Hv;exact uG hg _ _ _ ho n hx hx _ i0 (.slice none 0 0) Tryz.underlying99 h0 h1 h2 (by rw [h3];omega) (by omega) h
theorem makeR (hg:o.guard=none) (ho:o.op=.makeSlice 102 (.tmp 18) (.tmp 18)) (hx:a.eval (.tmp 18)=.int .i64 n) (hn:n<=2000)
  (h:∀ w',w'.heap[w.heap.size]? = some (.cells (madeCells #[.bool false] n) 4)->Kp [] w w'->K (a.put o.dst (.slice (some ⟨w.heap.size,0,none⟩) n n)) w'):if Region.wanted o (yielded ops a.tmps)=true then Oper.wp Tryz.prog o a w K Q else E:=by
 obtain ⟨i0,h0,h1,h2,h3⟩:=info_parts Tryz.KX;exact uG hg _ _ _ ho n hx hx _ i0 (.bool false) Tryz.underlying102 h0 h1 h2 (by rw [h3];omega) (by omega) h
end
theorem new_v {w:World} {sb lo hi:Nat} {σ:Sst} {ah:Bool} (hs:Scr lo hi w sb 0 σ) (hah:∀ wx,Kp [] w wx->Calls Tryz.prog 24 #[.pointer (some ⟨sb,0,none⟩)] wx fun r w'=>r=.returned (.bool ah)/\Kp [] wx w') (hn:σ.ns.length<=2000) (hrg:σ.ranges<=2000) :
  Calls Tryz.prog 25 #[.pointer (some ⟨sb,0,none⟩)] w fun r w'=>∃ mb db fb rb,r=.returned (.pointer (some ⟨mb,0,none⟩))/\Mac w w' mb sb db (lK ah fb σ.ns.length rb σ.ranges):=by
 have HAH:=hid hah;obtain ⟨A,c,e,_,_⟩:=dh hs.o5;obtain ⟨n,hnn⟩:∃ n,n=σ.ns.length:=⟨_,rfl⟩;obtain ⟨nr,hnr⟩:∃ nr,nr=σ.ranges:=⟨_,rfl⟩;have c2:w.cell? ⟨sb,2,none⟩=some σ.vn:=by simpa using hs.c2
 have c3:w.cell? ⟨sb,3,none⟩=some (.int .i64 σ.ranges):=by simpa using hs.c3
 rw [e] at c2;rw [<-hnn] at c2 hn ⊢;rw [<-hnr] at c3 hrg ⊢;clear hah e hnn hnr hs;go_enter Tryz.func25,Tryz.ntmps25
 go_upto_region 1 with fail
 go_cut [2] from 3 (fun v wx=>∃ mb db fb rb,v=.pointer (some ⟨mb,0,none⟩)/\Mac w wx mb sb db (lK ah fb n rb nr))
 case first=>
  have hS:uh sb A n c nr w.drew:=⟨c2,c3⟩;have k0:Kp [] w w.drew:=Kp.drew _ _;clear c2 c3;refine az (uh sb A n c nr) 19 (by kernel_rfl) ?_;obtain ⟨v,hv⟩:∃ v,v=w.drew:=⟨_,rfl⟩;rw [<-hv] at hS k0 ⊢;clear hv;have S:=hS;have k:=k0;clear hS k0;refine tk1 0 (v:=?_) rfl (by kernel_rfl) (fun _ _ _ h=>h) ⟨rfl,fun w hSw=>?_⟩ S ?_;rotate_left;· (unfold uh at hSw;go_simp;(try with_reducible rfl))
  refine tk1 2 (v:=?_) rfl (by kernel_rfl) (fun _ _ _ h=>h) ⟨rfl,fun w hSw=>?_⟩ S ?_;rotate_left;· (unfold uh at hSw;go_simp;(try with_reducible rfl))
  refine tk1 5 (v:=?_) rfl (by kernel_rfl) (fun _ _ _ h=>h) ⟨rfl,fun w hSw=>?_⟩ S ?_;rotate_left;· (unfold uh at hSw;go_simp;(try with_reducible rfl))
  refine tk1 6 (v:=?_) rfl (by kernel_rfl) (fun _ _ _ h=>h) ⟨rfl,fun w hSw=>?_⟩ S ?_;rotate_left;· (unfold uh at hSw;go_simp;(try with_reducible rfl))
  refine tk1 7 (v:=?_) rfl (by kernel_rfl) (fun _ _ _ h=>h) ⟨rfl,fun w hSw=>?_⟩ S ?_;rotate_left;· (unfold uh at hSw;go_simp;(try with_reducible rfl))
  refine tk1 8 (v:=?_) rfl (by kernel_rfl) (fun _ _ _ h=>h) ⟨rfl,fun w hSw=>?_⟩ S ?_;rotate_left;· (unfold uh at hSw;go_simp;(try with_reducible rfl))
  refine tk1 9 (v:=?_) rfl (by kernel_rfl) (fun _ _ _ h=>h) ⟨rfl,fun w hSw=>?_⟩ S ?_;rotate_left;· (unfold uh at hSw;go_simp;(try with_reducible rfl))
  refine tk1 12 (v:=?_) rfl (by kernel_rfl) (fun _ _ _ h=>h) ⟨rfl,fun w hSw=>?_⟩ S ?_;rotate_left;· (unfold uh at hSw;go_simp;(try with_reducible rfl))
  refine tk1 13 (v:=?_) rfl (by kernel_rfl) (fun _ _ _ h=>h) ⟨rfl,fun w hSw=>?_⟩ S ?_;rotate_left;· (unfold uh at hSw;go_simp;(try with_reducible rfl))
  refine tk1 14 (v:=?_) rfl (by kernel_rfl) (fun _ _ _ h=>h) ⟨rfl,fun w hSw=>?_⟩ S ?_;rotate_left;· (unfold uh at hSw;go_simp;(try with_reducible rfl))
  refine tk1 15 (v:=?_) rfl (by kernel_rfl) (fun _ _ _ h=>h) ⟨rfl,fun w hSw=>?_⟩ S ?_;rotate_left;· (unfold uh at hSw;go_simp;(try with_reducible rfl))
  simp only [Nn,Nk,Nj,Act.put,Ni,Np,Nq]
  iterate 4
   all_goals first
    | refine lE (i:=1) (j:=10) (k:=16) (by decide +kernel) rfl rfl rfl (fun K hK=>?_) (fun K hK=>?_) (fun K hK=>?_)
    | refine lE (i:=3) (j:=10) (k:=16) (by decide +kernel) rfl rfl rfl (fun K hK=>?_) (fun K hK=>?_) (fun K hK=>?_)
    | refine eI (i:=1) (j:=16) (by decide +kernel) rfl rfl (fun K hK=>?_) (fun K hK=>?_)
    | refine eI (i:=1) (j:=10) (by decide +kernel) rfl rfl (fun K hK=>?_) (fun K hK=>?_)
    | refine eI (i:=10) (j:=16) (by decide +kernel) rfl rfl (fun K hK=>?_) (fun K hK=>?_)
    | refine eI (i:=3) (j:=16) (by decide +kernel) rfl rfl (fun K hK=>?_) (fun K hK=>?_)
    | refine eI (i:=3) (j:=10) (by decide +kernel) rfl rfl (fun K hK=>?_) (fun K hK=>?_)
    | refine ag (i:=1) (by decide +kernel) rfl (fun K hK=>?_)
    | refine ag (i:=16) (by decide +kernel) rfl (fun K hK=>?_)
    | refine ag (i:=10) (by decide +kernel) rfl (fun K hK=>?_)
    | refine ag (i:=3) (by decide +kernel) rfl (fun K hK=>?_)
   all_goals first
    | (refine makeF (by rfl) (by rfl) (by rfl) (by omega) ?_
       obtain ⟨fb,h⟩:∃ fb,fb=v.heap.size:=⟨_,rfl⟩;intro v ff kd;rw [<-h] at ff ⊢;have lf:w.heap.size<=fb:=h ▸ k.size;try have ndf:db≠fb:=by have:=aN fd;omega
       try have nfr:fb≠rb:=by have:=aN fr;omega
       clear h;try replace fd:=(kd.block db (aN fd) (by simp)).trans fd
       try replace fr:=(kd.block rb (aN fr) (by simp)).trans fr
       replace S:=S.kp kd;replace k:=k.trans kd;refine hK.out _ _ (.inr S) ?_;clear hK K kd;try simp only [Nn,Nk,Nj,Act.put,Ni,Np,Nq]
       refine tk1 11 (v:=?_) rfl (by kernel_rfl) (fun _ _ _ h=>h) ⟨rfl,fun w hSw=>?_⟩ S ?_;rotate_left;· (unfold uh at hSw;go_simp;(try with_reducible rfl))
       simp only [Nn,Nk,Nj,Act.put,Ni,Np,Nq])
    | (refine makeR (by rfl) (by rfl) (by rfl) (by omega) ?_
       obtain ⟨rb,h⟩:∃ rb,rb=v.heap.size:=⟨_,rfl⟩;intro v fr kd;rw [<-h] at fr ⊢;have lr:w.heap.size<=rb:=h ▸ k.size;try have ndr:db≠rb:=by have:=aN fd;omega
       try have nfr:fb≠rb:=by have:=aN ff;omega
       clear h;try replace fd:=(kd.block db (aN fd) (by simp)).trans fd
       try replace ff:=(kd.block fb (aN ff) (by simp)).trans ff
       replace S:=S.kp kd;replace k:=k.trans kd;refine hK.out _ _ (.inr S) ?_;clear hK K kd
       try simp only [Nn,Nk,Nj,Act.put,Ni,Np,Nq])
    | (go_simp
       refine (Iy v).mono ?_;obtain ⟨db,h⟩:∃ db,db=v.heap.size:=⟨_,rfl⟩;rintro q v ⟨rfl,fd,kd⟩;dsimp only;rw [<-h] at fd ⊢;have ld:w.heap.size<=db:=h ▸ k.size;try have ndf:db≠fb:=by have:=aN ff;omega
       try have ndr:db≠rb:=by have:=aN fr;omega
       clear h;try replace ff:=(kd.block fb (aN ff) (by simp)).trans ff
       try replace fr:=(kd.block rb (aN fr) (by simp)).trans fr
       replace S:=S.kp kd;replace k:=k.trans kd;refine hK.out _ _ (.inr S) ?_;clear hK K kd
       try simp only [Nn,Nk,Nj,Act.put,Ni,Np,Nq])
    | (go_simp
       refine (HAH.out v k).mono ?_;rintro q v ⟨rfl,kd⟩;dsimp only;try replace fd:=(kd.block db (aN fd) (by simp)).trans fd
       try replace ff:=(kd.block fb (aN ff) (by simp)).trans ff
       try replace fr:=(kd.block rb (aN fr) (by simp)).trans fr
       replace S:=S.kp kd;replace k:=k.trans kd;refine hK.out _ _ (.inr S) ?_;clear hK K kd;try simp only [Nn,Nk,Nj,Act.put,Ni,Np,Nq]
       refine tk1 4 (v:=?_) rfl (by kernel_rfl) (fun _ _ _ h=>h) ⟨rfl,fun w hSw=>?_⟩ S ?_;rotate_left;· (unfold uh at hSw;go_simp;(try with_reducible rfl))
       simp only [Nn,Nk,Nj,Act.put,Ni,Np,Nq])
  all_goals
   refine ag (i:=17) (by kernel_rfl) rfl (fun K hK=>?_);go_simp;refine hK.out _ _ (.inr S) ?_;clear hK K;refine ag (i:=18) (by kernel_rfl) rfl (fun K hK=>?_);go_simp;refine hK.out _ _ (.inr (S.kp (Kp.alloc [] v _))) ?_;clear hK K;refine ag (i:=19) (by kernel_rfl) rfl (fun K hK=>?_);go_simp;refine hK.out _ _ (.inl rfl) ?_;clear hK K;refine ay (by kernel_rfl) ?_ _;go_wp2_with fail;go_meet
   case rel=>exact ⟨_,db,fb,rb,rfl,mac_new (ah:=ah) (sb:=sb) k fd ff fr ld lf lr ndf ndr nfr (by omega) (by omega)⟩
 case rest=>
 obtain ⟨mb,db,fb,rb,rfl,hm⟩:=hcut;go_wp2_with fail;go_ret;exact ⟨mb,db,fb,rb,rfl,hm⟩
