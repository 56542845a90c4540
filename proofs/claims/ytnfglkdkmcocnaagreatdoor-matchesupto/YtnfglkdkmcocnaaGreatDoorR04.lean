import Derived.Test.YtnfglkdkmcocnaaGreatDoorR03
set_option maxRecDepth 100000
set_option maxHeartbeats 16000000
set_option linter.all false
namespace Go.Proofs.YtnfglkdkmcocnaaGreatDoor
open Go.RowKit
theorem begin_no {w:World} {f p t g n c a pl:Nat} (c0:w.cell? ⟨f,0,none⟩=some (.pointer (some ⟨p,0,none⟩))) (c2:w.cell? ⟨f,2,none⟩=some (.int .i64 pl))
  (p0:w.cell? ⟨p,0,none⟩=some (.slice (some ⟨g,0,none⟩) n c)) (t0:w.cell? ⟨t,0,none⟩=some (.int .i64 a)) (ha:a < n) (i0:w.cell? ⟨g,a * 9,none⟩=some (.int .i64 1)) (hp:0 < pl) :
  Calls Tryz.prog 244 #[.pointer (some ⟨f,0,none⟩),.pointer (some ⟨t,0,none⟩)] w fun e w'=>e=.returned (.bool false)∧Kp [] w w':=by
 have hne:¬ pl=0:=by omega
 go_enter Tryz.func244,Tryz.ntmps244
 go_wp2
 go_quiet (fail)
 go_wp2
 all_goals go_ret
 all_goals exact ⟨rfl,Kp.drewN _ _ _⟩
theorem begin_yes {w:World} {f p t g n c a nx:Nat} (c0:w.cell? ⟨f,0,none⟩=some (.pointer (some ⟨p,0,none⟩))) (c2:w.cell? ⟨f,2,none⟩=some (.int .i64 (0:Nat)))
  (p0:w.cell? ⟨p,0,none⟩=some (.slice (some ⟨g,0,none⟩) n c)) (t0:w.cell? ⟨t,0,none⟩=some (.int .i64 a)) (ha:a < n) (i0:w.cell? ⟨g,a * 9,none⟩=some (.int .i64 1)) (f0:w.frozen? ⟨t,0,none⟩=false) (i1:w.cell? ⟨g,a * 9+1,none⟩=some (.int .i64 nx)) :
  Calls Tryz.prog 244 #[.pointer (some ⟨f,0,none⟩),.pointer (some ⟨t,0,none⟩)] w fun e w'=>e=.returned (.bool true)∧∃ k,w'=(w.drewN k).setCell ⟨t,0,none⟩ (.int .i64 nx):=by
 go_enter Tryz.func244,Tryz.ntmps244
 go_wp2
 go_quiet (fail)
 go_wp2
 all_goals go_ret
 all_goals exact ⟨rfl,_,rfl⟩
theorem end_no {w:World} {f p t g n c a pl:Nat} {text:ByteArray} (c0:w.cell? ⟨f,0,none⟩=some (.pointer (some ⟨p,0,none⟩))) (c2:w.cell? ⟨f,2,none⟩=some (.int .i64 pl)) (c1:w.cell? ⟨f,1,none⟩=some (.string text))
  (p0:w.cell? ⟨p,0,none⟩=some (.slice (some ⟨g,0,none⟩) n c)) (t0:w.cell? ⟨t,0,none⟩=some (.int .i64 a)) (ha:a < n) (i0:w.cell? ⟨g,a * 9,none⟩=some (.int .i64 2)) (hne:¬ pl=text.size) :
  Calls Tryz.prog 244 #[.pointer (some ⟨f,0,none⟩),.pointer (some ⟨t,0,none⟩)] w fun e w'=>e=.returned (.bool false)∧Kp [] w w':=by
 go_enter Tryz.func244,Tryz.ntmps244
 go_wp2
 go_quiet (fail)
 go_wp2
 go_quiet (fail)
 go_wp2
 all_goals go_ret
 all_goals exact ⟨rfl,(Kp.drewN _ _ _).trans (Kp.drewN _ _ _)⟩
theorem end_yes {w:World} {f p t g n c a pl nx:Nat} {text:ByteArray} (c0:w.cell? ⟨f,0,none⟩=some (.pointer (some ⟨p,0,none⟩))) (c2:w.cell? ⟨f,2,none⟩=some (.int .i64 pl)) (c1:w.cell? ⟨f,1,none⟩=some (.string text))
  (p0:w.cell? ⟨p,0,none⟩=some (.slice (some ⟨g,0,none⟩) n c)) (t0:w.cell? ⟨t,0,none⟩=some (.int .i64 a)) (ha:a < n) (i0:w.cell? ⟨g,a * 9,none⟩=some (.int .i64 2)) (f0:w.frozen? ⟨t,0,none⟩=false) (i1:w.cell? ⟨g,a * 9+1,none⟩=some (.int .i64 nx)) (hp:pl=text.size) :
  Calls Tryz.prog 244 #[.pointer (some ⟨f,0,none⟩),.pointer (some ⟨t,0,none⟩)] w fun e w'=>e=.returned (.bool true)∧∃ k,w'=(w.drewN k).setCell ⟨t,0,none⟩ (.int .i64 nx):=by
 subst hp
 go_enter Tryz.func244,Tryz.ntmps244
 go_wp2
 go_quiet (fail)
 go_wp2
 go_quiet (fail)
 go_wp2
 all_goals go_ret
 all_goals exact ⟨rfl,_,rfl⟩
theorem turn_no {w:World} {f p t g n c a tk dp:Nat} (c0:w.cell? ⟨f,0,none⟩=some (.pointer (some ⟨p,0,none⟩))) 
  (p0:w.cell? ⟨p,0,none⟩=some (.slice (some ⟨g,0,none⟩) n c)) (t0:w.cell? ⟨t,0,none⟩=some (.int .i64 a)) (ha:a < n) (i0:w.cell? ⟨g,a * 9,none⟩=some (.int .i64 5)) (t1:w.cell? ⟨t,1,none⟩=some (.int .i64 tk)) (i4:w.cell? ⟨g,a * 9+4,none⟩=some (.int .i64 dp)) (hp:tk≤dp) :
  Calls Tryz.prog 244 #[.pointer (some ⟨f,0,none⟩),.pointer (some ⟨t,0,none⟩)] w fun e w'=>e=.returned (.bool false)∧Kp [] w w':=by
 go_enter Tryz.func244,Tryz.ntmps244
 go_wp2
 go_quiet (fail)
 go_wp2
 go_quiet (fail)
 go_wp2
 all_goals go_ret
 all_goals exact ⟨rfl,(Kp.drewN _ _ _).trans (Kp.drewN _ _ _)⟩
theorem turn_yes {w:World} {f p t g n c a tk dp nx:Nat} (c0:w.cell? ⟨f,0,none⟩=some (.pointer (some ⟨p,0,none⟩))) 
  (p0:w.cell? ⟨p,0,none⟩=some (.slice (some ⟨g,0,none⟩) n c)) (t0:w.cell? ⟨t,0,none⟩=some (.int .i64 a)) (ha:a < n) (i0:w.cell? ⟨g,a * 9,none⟩=some (.int .i64 5)) (f0:w.frozen? ⟨t,0,none⟩=false) (i1:w.cell? ⟨g,a * 9+1,none⟩=some (.int .i64 nx)) (t1:w.cell? ⟨t,1,none⟩=some (.int .i64 tk)) (f1:w.frozen? ⟨t,1,none⟩=false) (i4:w.cell? ⟨g,a * 9+4,none⟩=some (.int .i64 dp)) (hp:¬ tk≤dp) (htg:t≠g) (htf:t≠f) (htp:t≠p) :
  Calls Tryz.prog 244 #[.pointer (some ⟨f,0,none⟩),.pointer (some ⟨t,0,none⟩)] w fun e w'=>e=.returned (.bool true)∧∃ k,w'=((w.drewN k).setCell ⟨t,1,none⟩ (.int .i64 dp)).setCell ⟨t,0,none⟩ (.int .i64 nx):=by
 go_enter Tryz.func244,Tryz.ntmps244
 go_wp2
 go_quiet (fail)
 go_wp2
 go_quiet (fail)
 go_wp2
 all_goals go_ret
 all_goals exact ⟨rfl,_,rfl⟩
theorem note_any {w:World} {f p t g n c a pl sl nx:Nat} {vo:Value} (c0:w.cell? ⟨f,0,none⟩=some (.pointer (some ⟨p,0,none⟩))) (c2:w.cell? ⟨f,2,none⟩=some (.int .i64 pl))
  (p0:w.cell? ⟨p,0,none⟩=some (.slice (some ⟨g,0,none⟩) n c)) (t0:w.cell? ⟨t,0,none⟩=some (.int .i64 a)) (ha:a < n) (i0:w.cell? ⟨g,a * 9,none⟩=some (.int .i64 3)) (f0:w.frozen? ⟨t,0,none⟩=false) (i1:w.cell? ⟨g,a * 9+1,none⟩=some (.int .i64 nx)) (i3:w.cell? ⟨g,a * 9+3,none⟩=some (.int .i64 sl)) (hs:sl < 20) (ts:w.cell? ⟨t,2+sl,none⟩=some vo) (fs:w.frozen? ⟨t,2+sl,none⟩=false) (htg:t≠g) (htf:t≠f) (htp:t≠p) :
  Calls Tryz.prog 244 #[.pointer (some ⟨f,0,none⟩),.pointer (some ⟨t,0,none⟩)] w fun e w'=>e=.returned (.bool true)∧∃ k,w'=((w.drewN k).setCell ⟨t,2+sl,none⟩ (.int .i64 pl)).setCell ⟨t,0,none⟩ (.int .i64 nx):=by
 go_enter Tryz.func244,Tryz.ntmps244
 go_wp2
 go_quiet (fail)
 go_wp2
 go_region
 all_goals go_wp2
 all_goals go_ret
 all_goals exact ⟨rfl,_,rfl⟩
structure HitQ (q f:Nat) (row:Option Nat) (w w':World):Prop where
 os:w'.os=w.os
 tape:w'.tape=w.tape
 output:w'.output=w.output
 size:w.heap.size≤w'.heap.size
 block:∀ k,k < w.heap.size→k≠f→some k≠row→w'.heap[k]? = w.heap[k]?
 cell:∀ i,i≠q→w'.cell? ⟨f,i,none⟩=w.cell? ⟨f,i,none⟩
 free:∀ i,w'.frozen? ⟨f,i,none⟩=w.frozen? ⟨f,i,none⟩
theorem step_postQ {w w2 w3:World} {q f B nA g' c':Nat} {v4:Value} {xs ys:List Value} {o:Obj} (hc:w.cell? ⟨f,q,none⟩=some v4) (k2:Kp [] w w2) (_ho:w2.ownsRow B 274 22 v4 nA xs)
  (hown:w3.ownsRow B 274 22 (.slice (some ⟨g',0,none⟩) (nA+1) c') (nA+1) ys) (hg:((w2.alloc o).drew).grownBy w3 v4.ownBlock) (hor:v4.ownBlock=some g'∨((w2.alloc o).drew).heap.size≤g')
  (hf4:some f≠v4.ownBlock) (hc3:w3.cell? ⟨f,q,none⟩=some v4) :
  ∃ g c,(w3.setCell ⟨f,q,none⟩ (.slice (some ⟨g',0,none⟩) (nA+1) c')).cell? ⟨f,q,none⟩=some (.slice (some ⟨g,0,none⟩) (nA+1) c) ∧
   (w3.setCell ⟨f,q,none⟩ (.slice (some ⟨g',0,none⟩) (nA+1) c')).ownsRow B 274 22 (.slice (some ⟨g,0,none⟩) (nA+1) c) (nA+1) ys∧(v4.ownBlock=some g∨w.heap.size≤g) ∧
   HitQ q f v4.ownBlock w (w3.setCell ⟨f,q,none⟩ (.slice (some ⟨g',0,none⟩) (nA+1) c')):=by
 have hlt:=World.block_lt_of_cell? _ _ hc
 have kW:Kp [] w ((w2.alloc o).drew):=k2.trans ((Kp.alloc _ _ _).trans (Kp.drew _ _))
 have hz:=kW.size
 have hgf:g'≠f:=fun e=>by
  rcases hor with h | h
  ·rw [h,e] at hf4;exact hf4 rfl
  ·rw [e] at h;have:=hlt;simp at this;omega
 refine ⟨g',c',cell_same _ hc3,?_,hor.imp id (fun h=>Nat.le_trans hz h),?_⟩
 ·exact ownsRow_setCell_far hown hgf
 ·refine ⟨hg.os.trans kW.os,hg.tape.trans kW.tape,hg.output.trans kW.output,?_,fun k hk hkf hkr=>?_,fun i hi=>?_,fun i=>?_⟩
  ·have:=hg.size;simp [World.setCell] at this ⊢;have:=k2.size;omega
  ·rw [Below.heap_setCell _ _ _ _ hkf]
   exact (hg.block k (Nat.lt_of_lt_of_le hk hz) hkr).trans (kW.block k hk (by simp))
  ·rw [cell_other _ (fun h=>hi (by injection h with _ h2 _;exact h2.symm))]
   exact (World.cell?_of_block (w:=(w2.alloc o).drew) (hg.block f (Nat.lt_of_lt_of_le hlt hz) hf4)).trans (kW.cell hlt (by simp))
  ·have h1:(w3.setCell ⟨f,q,none⟩ (.slice (some ⟨g',0,none⟩) (nA+1) c')).frozen? ⟨f,i,none⟩=w3.frozen? ⟨f,i,none⟩:=by simp
   rw [h1]
   exact (grown_free' hg (p:=⟨f,i,none⟩) hf4 (Nat.lt_of_lt_of_le hlt hz)).trans (kW.frozen hlt (by simp))
theorem split_any {w:World} {f p t g n c a B nL:Nat} {v5:Value} {xs:List Value} {nx ot tk:Int} {x:Nat→Int}
  (c0:w.cell? ⟨f,0,none⟩=some (.pointer (some ⟨p,0,none⟩)))
  (c5:w.cell? ⟨f,5,none⟩=some v5) (f5:w.frozen? ⟨f,5,none⟩=false) (hown:w.ownsRow B 274 22 v5 nL xs) (hB:B≤w.heap.size) (hf5:some f≠v5.ownBlock) (hg5:some g≠v5.ownBlock) (ht5:some t≠v5.ownBlock) (hnL:nL≤100000)
  (p0:w.cell? ⟨p,0,none⟩=some (.slice (some ⟨g,0,none⟩) n c)) (t0:w.cell? ⟨t,0,none⟩=some (.int .i64 a)) (t1:w.cell? ⟨t,1,none⟩=some (.int .i64 tk)) (ft:w.frozen? ⟨t,0,none⟩=false) (hr:w.rangeAt t 2 (nf x)) (ha:a < n)
  (i0:w.cell? ⟨g,a * 9,none⟩=some (.int .i64 4)) (i1:w.cell? ⟨g,a * 9+1,none⟩=some (.int .i64 nx)) (i2:w.cell? ⟨g,a * 9+2,none⟩=some (.int .i64 ot)) (hgf:g≠f) (htf:t≠f) :
  Calls Tryz.prog 244 #[.pointer (some ⟨f,0,none⟩),.pointer (some ⟨t,0,none⟩)] w fun e w'=>e=.returned (.bool true) ∧
   ∃ w4,w'=w4.setCell ⟨t,0,none⟩ (.int .i64 nx)∧∃ g' c',w4.cell? ⟨f,5,none⟩=some (.slice (some ⟨g',0,none⟩) (nL+1) c')∧w4.ownsRow B 274 22 (.slice (some ⟨g',0,none⟩) (nL+1) c') (nL+1) (xs++tf ot tk x)∧(v5.ownBlock=some g'∨w.heap.size≤g') ∧
    HitQ 5 f v5.ownBlock w w4:=by
 obtain ⟨ti,hi,hz0,hz1,hz2⟩:=info_parts Tryz.infoTh
 have HI:=hid hi
 have HZ:=hid (And.intro hz0 (And.intro hz1 hz2))
 clear hi hz0 hz1 hz2
 have HC5:=hid c5
 have HR:=hid hr
 clear hr
 go_enter Tryz.func244,Tryz.ntmps244
 go_wp2
 go_quiet (fail)
 go_wp2
 have k2:Kp [] w (w.drewN nq):=Kp.drewN _ _ _
 generalize w.drewN nq=w2 at *
 have e5:=(k2.cell (World.block_lt_of_cell? _ _ c5) (by simp)).trans c5
 have ef5:=(k2.frozen (p:=⟨f,5,none⟩) (World.block_lt_of_cell? _ _ c5) (by simp)).trans f5
 have j1:=hid ((k2.cell (World.block_lt_of_cell? _ _ i1) (by simp)).trans i1)
 have j2:=(k2.cell (World.block_lt_of_cell? _ _ i2) (by simp)).trans i2
 have u1:=(k2.cell (World.block_lt_of_cell? _ _ t1) (by simp)).trans t1
 have u0:=hid ((k2.cell (World.block_lt_of_cell? _ _ t0) (by simp)).trans t0)
 have uf:=hid ((k2.frozen (p:=⟨t,0,none⟩) (World.block_lt_of_cell? _ _ t0) (by simp)).trans ft)
 have r2:=rangeAt_keep HR.out k2 (by simp)
 have HO2:=hid (ownsRow_keep hown k2 (by simp))
 have hB2:=hid (Nat.le_trans hB k2.size)
 have HT:=hid (tf_one ot tk x)
 clear c0 c5 f5 hown p0 t0 t1 ft i0 i1 i2
 refine wp_region_noPanic ?_
 refine wp_region_T (fun w':World=>w'.cell? ⟨f,5,none⟩=some v5∧w'.cell? ⟨g,a * 9+2,none⟩=some (.int .i64 ot)∧w'.cell? ⟨t,1,none⟩=some (.int .i64 tk)∧w'.rangeAt t 2 (nf x)) 22 (by kernel_rfl) ?_
 have hS:(fun w':World=>w'.cell? ⟨f,5,none⟩=some v5∧w'.cell? ⟨g,a * 9+2,none⟩=some (.int .i64 ot)∧w'.cell? ⟨t,1,none⟩=some (.int .i64 tk)∧w'.rangeAt t 2 (nf x)) w2.drew:=⟨e5,j2,u1,r2⟩
 refine tk1 0 (v:=?_) rfl (by kernel_rfl) (fun _ _ _ h=>h) ⟨rfl,fun w hSw=>?_⟩ hS ?_;rotate_left;· ((try dsimp only at hSw);go_simp;(try with_reducible rfl))
 (try simp only [List.getElem_toArray,List.getElem_cons_succ,List.getElem_cons_zero,Act.put,List.setIfInBounds_toArray,List.set_cons_zero,List.set_cons_succ])
 refine tk1 1 (v:=?_) rfl (by kernel_rfl) (fun _ _ _ h=>h) ⟨rfl,fun w hSw=>?_⟩ hS ?_;rotate_left;· ((try dsimp only at hSw);go_simp;(try with_reducible rfl))
 (try simp only [List.getElem_toArray,List.getElem_cons_succ,List.getElem_cons_zero,Act.put,List.setIfInBounds_toArray,List.set_cons_zero,List.set_cons_succ])
 refine tk1 2 (v:=?_) rfl (by kernel_rfl) (fun _ _ _ h=>h) ⟨rfl,fun w hSw=>?_⟩ hS ?_;rotate_left;· ((try dsimp only at hSw);go_simp;(try with_reducible rfl))
 (try simp only [List.getElem_toArray,List.getElem_cons_succ,List.getElem_cons_zero,Act.put,List.setIfInBounds_toArray,List.set_cons_zero,List.set_cons_succ])
 refine tk1 3 (v:=?_) rfl (by kernel_rfl) (fun _ _ _ h=>h) ⟨rfl,fun w hSw=>?_⟩ hS ?_;rotate_left;· ((try dsimp only at hSw);go_simp;(try with_reducible rfl))
 (try simp only [List.getElem_toArray,List.getElem_cons_succ,List.getElem_cons_zero,Act.put,List.setIfInBounds_toArray,List.set_cons_zero,List.set_cons_succ])
 refine tk1 4 (v:=?_) rfl (by kernel_rfl) (fun _ _ _ h=>h) ⟨rfl,fun w hSw=>?_⟩ hS ?_;rotate_left;· ((try dsimp only at hSw);go_simp;(try with_reducible rfl))
 (try simp only [List.getElem_toArray,List.getElem_cons_succ,List.getElem_cons_zero,Act.put,List.setIfInBounds_toArray,List.set_cons_zero,List.set_cons_succ])
 refine tk1 5 (v:=?_) rfl (by kernel_rfl) (fun _ _ _ h=>h) ⟨rfl,fun w hSw=>?_⟩ hS ?_;rotate_left;· ((try dsimp only at hSw);go_simp;(try with_reducible rfl))
 (try simp only [List.getElem_toArray,List.getElem_cons_succ,List.getElem_cons_zero,Act.put,List.setIfInBounds_toArray,List.set_cons_zero,List.set_cons_succ])
 refine tk1 6 (v:=?_) rfl (by kernel_rfl) (fun _ _ _ h=>h) ⟨rfl,fun w hSw=>?_⟩ hS ?_;rotate_left;· ((try dsimp only at hSw);go_simp;(try with_reducible rfl))
 (try simp only [List.getElem_toArray,List.getElem_cons_succ,List.getElem_cons_zero,Act.put,List.setIfInBounds_toArray,List.set_cons_zero,List.set_cons_succ])
 refine tk1 7 (v:=?_) rfl (by kernel_rfl) (fun _ _ _ h=>h) ⟨rfl,fun w hSw=>?_⟩ hS ?_;rotate_left;· ((try dsimp only at hSw);go_simp;(try with_reducible rfl))
 (try simp only [List.getElem_toArray,List.getElem_cons_succ,List.getElem_cons_zero,Act.put,List.setIfInBounds_toArray,List.set_cons_zero,List.set_cons_succ])
 refine tk1 8 (v:=?_) rfl (by kernel_rfl) (fun _ _ _ h=>h) ⟨rfl,fun w hSw=>?_⟩ hS ?_;rotate_left;· ((try dsimp only at hSw);go_simp;(try with_reducible rfl))
 (try simp only [List.getElem_toArray,List.getElem_cons_succ,List.getElem_cons_zero,Act.put,List.setIfInBounds_toArray,List.set_cons_zero,List.set_cons_succ])
 refine tk1 9 (v:=?_) rfl (by kernel_rfl) (fun _ _ _ h=>h) ⟨rfl,fun w hSw=>?_⟩ hS ?_;rotate_left;· ((try dsimp only at hSw);go_simp;(try with_reducible rfl))
 (try simp only [List.getElem_toArray,List.getElem_cons_succ,List.getElem_cons_zero,Act.put,List.setIfInBounds_toArray,List.set_cons_zero,List.set_cons_succ])
 refine tk1 10 (v:=?_) rfl (by kernel_rfl) (fun _ _ _ h=>h) ⟨rfl,fun w hSw=>?_⟩ hS ?_;rotate_left;· ((try dsimp only at hSw);go_simp;(try with_reducible rfl))
 (try simp only [List.getElem_toArray,List.getElem_cons_succ,List.getElem_cons_zero,Act.put,List.setIfInBounds_toArray,List.set_cons_zero,List.set_cons_succ])
 refine tk1 11 (v:=?_) rfl (by kernel_rfl) (fun _ _ _ h=>h) ⟨rfl,fun w hSw=>?_⟩ hS ?_;rotate_left;· ((try dsimp only at hSw);go_simp;(try with_reducible rfl))
 (try simp only [List.getElem_toArray,List.getElem_cons_succ,List.getElem_cons_zero,Act.put,List.setIfInBounds_toArray,List.set_cons_zero,List.set_cons_succ])
 refine tk1 12 (v:=?_) rfl (by kernel_rfl) (fun _ _ _ h=>h) ⟨rfl,fun w hSw=>?_⟩ hS ?_;rotate_left;· ((try dsimp only at hSw);go_simp;(try with_reducible rfl))
 (try simp only [List.getElem_toArray,List.getElem_cons_succ,List.getElem_cons_zero,Act.put,List.setIfInBounds_toArray,List.set_cons_zero,List.set_cons_succ])
 refine tk1 13 (v:=?_) rfl (by kernel_rfl) (fun _ _ _ h=>h) ⟨rfl,fun w hSw=>?_⟩ hS ?_;rotate_left;· ((try dsimp only at hSw);go_simp;(try with_reducible rfl))
 (try simp only [List.getElem_toArray,List.getElem_cons_succ,List.getElem_cons_zero,Act.put,List.setIfInBounds_toArray,List.set_cons_zero,List.set_cons_succ])
 refine tk1 14 (v:=?_) rfl (by kernel_rfl) (fun _ _ _ h=>h) ⟨rfl,fun w hSw=>?_⟩ hS ?_;rotate_left;· ((try dsimp only at hSw);go_simp;(try with_reducible rfl))
 (try simp only [List.getElem_toArray,List.getElem_cons_succ,List.getElem_cons_zero,Act.put,List.setIfInBounds_toArray,List.set_cons_zero,List.set_cons_succ])
 refine tk1 15 (v:=?_) rfl (by kernel_rfl) (fun _ _ _ h=>h) ⟨rfl,fun w hSw=>?_⟩ hS ?_;rotate_left;· ((try dsimp only at hSw);go_simp;(try with_reducible rfl))
 (try simp only [List.getElem_toArray,List.getElem_cons_succ,List.getElem_cons_zero,Act.put,List.setIfInBounds_toArray,List.set_cons_zero,List.set_cons_succ])
 refine wpAnyT_take (i:=16) (v:=.agg (nf x).toArray) rfl (by kernel_rfl) (by kernel_rfl) (by kernel_rfl) (by kernel_rfl) (fun _ _ _ h=>h) (Or.inl ⟨by rfl,?y16⟩) hS ?_
 case y16=>(intro w hw;have hl:=run_loadAt_mid (P:=Tryz.prog) w t 2 237 (nf x) _ hw.2.2.2 Tryz.underlying237 rfl Tryz.szNotes;clear hw;simp only [execOp,List.getElem_toArray,List.getElem_cons_succ,List.getElem_cons_zero];show Sem.run Tryz.prog (Instr.loadAt 237 (.pointer (some ⟨t,2,none⟩)) >>= fun u=>pure (Next.value u)) w=_;rw [Sem.run_bind,hl];rfl)
 simp only [List.getElem_toArray,List.getElem_cons_succ,List.getElem_cons_zero,Act.put,List.setIfInBounds_toArray,List.set_cons_zero,List.set_cons_succ]
 refine tk1 17 (v:=?_) rfl (by kernel_rfl) (fun _ _ _ h=>h) ⟨rfl,fun w hSw=>?_⟩ hS ?_;rotate_left;· ((try dsimp only at hSw);go_simp;(try with_reducible rfl))
 (try simp only [List.getElem_toArray,List.getElem_cons_succ,List.getElem_cons_zero,Act.put,List.setIfInBounds_toArray,List.set_cons_zero,List.set_cons_succ])
 refine wpAnyT_one (i:=18) (by kernel_rfl) rfl (fun K hK=>?_)
 go_simp
 refine hK.out _ _ (.inr ⟨cell_ad e5 _,cell_ad j2 _,cell_ad u1 _,range_ad r2 _⟩) ?_
 clear hK K
 refine wpAnyT_one (i:=19) (by kernel_rfl) rfl (fun K hK=>?_)
 refine step_append2 (by rfl) (.tmp 111) (.tmp 125) 235 (by rfl) B 274 ti _ 22 176 Tryz.underlying235 HI.out HZ.out.1 HZ.out.2.1 HZ.out.2.2 rfl (by decide) v5 nL xs (by rfl) (HO2.out.alloc _).drew ⟨w2.heap.size,0,none⟩ 1 1 (tf ot tk x) (by rfl) rfl (news_cells w2 _ _ _ rfl) HT.out (by unfold maxLen;omega) (by omega) (Nat.le_trans hB2.out (by simp)) (by decide) ?_
 intro g' c' w3 hown3 hgrow hor
 have S3:(fun w':World=>w'.cell? ⟨f,5,none⟩=some v5∧w'.cell? ⟨g,a * 9+2,none⟩=some (.int .i64 ot)∧w'.cell? ⟨t,1,none⟩=some (.int .i64 tk)∧w'.rangeAt t 2 (nf x)) w3:=⟨grown_cell' hgrow hf5 (cell_ad e5 _),grown_cell' hgrow hg5 (cell_ad j2 _),grown_cell' hgrow ht5 (cell_ad u1 _),rangeAt_grown (range_ad r2 _) hgrow ht5⟩
 have J1:=hid (grown_cell' hgrow hg5 (cell_ad j1.out _))
 have U0:=hid (grown_cell' hgrow ht5 (cell_ad u0.out _))
 have UF:=hid ((grown_free' hgrow (p:=⟨t,0,none⟩) ht5 (World.block_lt_of_cell? _ _ (cell_ad u0.out _))).trans (free_ad u0.out uf.out _))
 refine hK.out _ _ (.inr S3) ?_
 clear hK K
 refine wpAnyT_one (i:=20) (by kernel_rfl) rfl (fun K hK=>?_)
 go_simp
 refine hK.out _ _ (.inr S3) ?_
 clear hK K
 refine wpAnyT_one (i:=21) (by kernel_rfl) rfl (fun K hK=>?_)
 go_simp
 refine hK.out _ _ (.inr S3) ?_
 clear hK K
 have c5':=S3.1
 have f5':=(grown_free' hgrow (p:=⟨f,5,none⟩) hf5 (World.block_lt_of_cell? _ _ (cell_ad e5 _))).trans (free_ad e5 ef5 _)
 have HG:=hid (And.intro hown3 (And.intro hgrow hor))
 clear hown3 hgrow hor S3 hS e5 ef5 j2 u1 r2
 refine wpAnyT_one (i:=22) (by kernel_rfl) rfl (fun K hK=>?_)
 go_simp
 refine hK.out _ _ (.inl rfl) ?_
 clear hK K
 refine wpAnyT_done (by kernel_rfl) ?_ _
 refine NoPanic.normal ?_
 have ps:=step_postQ HC5.out k2 HO2.out HG.out.1 HG.out.2.1 HG.out.2.2 hf5 c5'
 have m1:=(cell_other (w:=w3) (a:=⟨f,5,none⟩) (c:=⟨g,a * 9+1,none⟩) (.slice (some ⟨g',0,none⟩) (nL+1) c') (fun e=>by injection e with e1 _ _;exact hgf e1.symm)).trans J1.out
 have m0:=(cell_other (w:=w3) (a:=⟨f,5,none⟩) (c:=⟨t,0,none⟩) (.slice (some ⟨g',0,none⟩) (nL+1) c') (fun e=>by injection e with e1 _ _;exact htf e1.symm)).trans U0.out
 have mf:(w3.setCell ⟨f,5,none⟩ (.slice (some ⟨g',0,none⟩) (nL+1) c')).frozen? ⟨t,0,none⟩=false:=by simpa using UF.out
 have PS:=hid ps
 clear ps
 generalize w3.setCell ⟨f,5,none⟩ (.slice (some ⟨g',0,none⟩) (nL+1) c')=w4 at *
 clear c5' f5' J1 U0 UF
 go_wp2
 go_ret
 exact ⟨rfl,w4,rfl,PS.out⟩
variable {Z:List (Nat×Obj)}
theorem and_bit (m:Nat→Bool) (x:Nat):bits .and .u64 (wd m (x / 64):Int) (IntKind.u64.wrap (2 ^ (x % 64)))=if m x=true then ((2 ^ (x % 64):Nat):Int) else 0:=by
 have h1:=wd_lt m (x / 64)
 have h2:=two_pow_lt x
 rw [wrap_pow,u64_and_nat _ _ (wd_lt' _ _) (two_pow_lt' x)]
 have e:(wd m (x / 64)) &&& 2 ^ (x % 64)=if m x=true then 2 ^ (x % 64) else 0:=by
  have hx:x % 64 < 64:=Nat.mod_lt _ (by decide)
  apply Nat.eq_of_testBit_eq
  intro j
  rw [Nat.testBit_and,wd_bit,Nat.testBit_two_pow]
  by_cases hj:x % 64=j
  ·subst hj
   rw [Nat.div_add_mod]
   cases hm:m x <;> simp [hx]
  ·cases hm:m x <;> simp [hj]
 rw [e]
 split <;> simp
theorem and_yes {m:Nat→Bool} {x:Nat} (h:m x=true):(bits .and .u64 (wd m (x / 64):Int) (IntKind.u64.wrap (2 ^ (x % 64))) == 0)=false:=by
 rw [and_bit,if_pos h,beq_eq_false_iff_ne]
 have:=Nat.two_pow_pos (x % 64)
 omega
theorem and_no {m:Nat→Bool} {x:Nat} (h:m x=false):(bits .and .u64 (wd m (x / 64):Int) (IntKind.u64.wrap (2 ^ (x % 64))) == 0)=true:=by
 rw [and_bit,if_neg (by rw [h];simp)];rfl
theorem first_no {w:World} {f p g c n t sb N a dp dp1 m0 m1 m2 tk x pl:Nat} {v:Int}
  (c0:w.cell? ⟨f,0,none⟩=some (.pointer (some ⟨p,0,none⟩))) (c2:w.cell? ⟨f,2,none⟩=some (.int .i64 pl)) (c6:w.cell? ⟨f,6,none⟩=some (.slice (some ⟨sb,0,none⟩) N N))
  (p0:w.cell? ⟨p,0,none⟩=some (.slice (some ⟨g,0,none⟩) n c)) (p3:w.cell? ⟨p,3,none⟩=some (.int .i64 dp)) (t0:w.cell? ⟨t,0,none⟩=some (.int .i64 a)) (t1:w.cell? ⟨t,1,none⟩=some (.int .i64 tk))
  (s0:w.cell? ⟨sb,x / 64,none⟩=some (.int .u64 v)) (hix:x / 64 < N) (hN:N≤1000000000)
  (e0:(pl:Int) * n=m0) (e1:(m0:Int)+a=m1) (e2:(dp:Int)+1=dp1) (e3:(m1:Int) * dp1=m2) (e4:(m2:Int)+tk=x)
  (b0:m0≤1000000000) (b1:m1≤1000000000) (b2:dp1≤1000000000) (b3:m2≤1000000000) (b4:x≤1000000000)
  (hb:(bits .and .u64 v (IntKind.u64.wrap (2 ^ (x % 64))) == 0)=false) :
  Calls Tryz.prog 243 #[.pointer (some ⟨f,0,none⟩),.pointer (some ⟨t,0,none⟩)] w fun e w'=>e=.returned (.bool false)∧Kp [] w w':=by
 have w0:=wrap_i64_nat m0 (by omega)
 have w1:=wrap_i64_nat m1 (by omega)
 have w2:=wrap_i64_nat dp1 (by omega)
 have w3:=wrap_i64_nat m2 (by omega)
 have w4:=wrap_i64_nat x (by omega)
 go_enter Tryz.func243,Tryz.ntmps243
 go_wp2
 go_quiet (fail)
 go_wp2
 go_quiet (fail)
 go_wp2
 go_ret
 exact ⟨rfl,Kp.drewN _ _ _⟩
theorem first_yes {w:World} {f p g c n t sb N a dp dp1 m0 m1 m2 tk x pl:Nat} {v:Int}
  (c0:w.cell? ⟨f,0,none⟩=some (.pointer (some ⟨p,0,none⟩))) (c2:w.cell? ⟨f,2,none⟩=some (.int .i64 pl)) (c6:w.cell? ⟨f,6,none⟩=some (.slice (some ⟨sb,0,none⟩) N N))
  (p0:w.cell? ⟨p,0,none⟩=some (.slice (some ⟨g,0,none⟩) n c)) (p3:w.cell? ⟨p,3,none⟩=some (.int .i64 dp)) (t0:w.cell? ⟨t,0,none⟩=some (.int .i64 a)) (t1:w.cell? ⟨t,1,none⟩=some (.int .i64 tk))
  (s0:w.cell? ⟨sb,x / 64,none⟩=some (.int .u64 v)) (s1:w.frozen? ⟨sb,x / 64,none⟩=false) (hix:x / 64 < N) (hN:N≤1000000000)
  (e0:(pl:Int) * n=m0) (e1:(m0:Int)+a=m1) (e2:(dp:Int)+1=dp1) (e3:(m1:Int) * dp1=m2) (e4:(m2:Int)+tk=x)
  (b0:m0≤1000000000) (b1:m1≤1000000000) (b2:dp1≤1000000000) (b3:m2≤1000000000) (b4:x≤1000000000)
  (hb:(bits .and .u64 v (IntKind.u64.wrap (2 ^ (x % 64))) == 0)=true) :
  Calls Tryz.prog 243 #[.pointer (some ⟨f,0,none⟩),.pointer (some ⟨t,0,none⟩)] w fun e w'=>e=.returned (.bool true)∧∃ k,w'=(w.drewN k).setCell ⟨sb,x / 64,none⟩ (.int .u64 (bits .or .u64 v (IntKind.u64.wrap (2 ^ (x % 64))))):=by
 have w0:=wrap_i64_nat m0 (by omega)
 have w1:=wrap_i64_nat m1 (by omega)
 have w2:=wrap_i64_nat dp1 (by omega)
 have w3:=wrap_i64_nat m2 (by omega)
 have w4:=wrap_i64_nat x (by omega)
 go_enter Tryz.func243,Tryz.ntmps243
 go_wp2
 go_quiet (fail)
 go_wp2
 go_quiet (fail)
 go_wp2
 go_ret
 exact ⟨rfl,_,rfl⟩
variable {Z:List (Nat×Obj)}
structure In where
 kind:Nat
 nx:Nat
 ot:Nat
 sl:Nat
 dp:Nat
 m:Nat→Bool
structure Thr where
 pc:Nat
 tk:Nat
 x:Nat→Int
structure Mc where
 ahead:List Thr
 left:List Thr
 sn:Nat→Bool
 fd:Bool
 best:Nat→Int
def flat (l:List Thr):List Value:=l.flatMap fun t=>tf t.pc t.tk t.x
theorem flat_len (l:List Thr):(flat l).length=l.length * 22:=by
 induction l with
 | nil=>rfl
 | cons t l ih=>
  show (tf t.pc t.tk t.x++flat l).length=(l.length+1) * 22
  rw [List.length_append,ih]
  show 22+l.length * 22=_
  omega
theorem flat_snoc (l:List Thr) (t:Thr):flat (l++[t])=flat l++tf t.pc t.tk t.x:=by simp [flat]
structure Fg (Z:List (Nat×Obj)) (w W:World) (f p sb N pl:Nat) (text:ByteArray) (here:List Thr) (v3 v4 v5:Value) (s:Mc):Prop where
 kp:Kp [] w W
 flo:w.heap.size≤f
 slo:w.heap.size≤sb
 ne:sb≠f
 c0:W.cell? ⟨f,0,none⟩=some (.pointer (some ⟨p,0,none⟩))
 c1:W.cell? ⟨f,1,none⟩=some (.string text)
 c2:W.cell? ⟨f,2,none⟩=some (.int .i64 pl)
 c3:W.cell? ⟨f,3,none⟩=some v3
 c4:W.cell? ⟨f,4,none⟩=some v4
 c5:W.cell? ⟨f,5,none⟩=some v5
 c6:W.cell? ⟨f,6,none⟩=some (.slice (some ⟨sb,0,none⟩) N N)
 c7:W.cell? ⟨f,7,none⟩=some (.bool s.fd)
 best:W.rangeAt f 8 (nf s.best)
 free:∀ i,W.frozen? ⟨f,i,none⟩=false
 slt:sb < W.heap.size
 seen:∀ i,i < N→W.cell? ⟨sb,i,none⟩=some (.int .u64 (wd s.sn i))∧W.frozen? ⟨sb,i,none⟩=false
 o3:W.ownsRow w.heap.size 274 22 v3 here.length (flat here)
 o4:W.ownsRow w.heap.size 274 22 v4 s.ahead.length (flat s.ahead)
 o5:W.ownsRow w.heap.size 274 22 v5 s.left.length (flat s.left)
 x3:∀ k,v3.ownBlock=some k→k≠f∧k≠sb∧v4.ownBlock≠some k∧v5.ownBlock≠some k
 x4:∀ k,v4.ownBlock=some k→k≠f∧k≠sb∧v5.ownBlock≠some k
 x5:∀ k,v5.ownBlock=some k→k≠f∧k≠sb
 fx:∀ e∈Z,W.heap[e.1]? = some e.2∧e.1≠f∧e.1≠sb∧v3.ownBlock≠some e.1∧v4.ownBlock≠some e.1∧v5.ownBlock≠some e.1
section
variable {w W W':World} {f p sb N pl:Nat} {text:ByteArray} {here:List Thr} {v3 v4 v5:Value} {s:Mc}
theorem Fg.flt (h:Fg Z w W f p sb N pl text here v3 v4 v5 s):f < W.heap.size:=World.block_lt_of_cell? _ _ h.c0
structure Fg.Far (Z:List (Nat×Obj)) (w:World) (f sb:Nat) (v3 v4 v5:Value) (T:Nat):Prop where
 lo:w.heap.size≤T
 nf:T≠f
 ns:T≠sb
 n3:v3.ownBlock≠some T
 n4:v4.ownBlock≠some T
 n5:v5.ownBlock≠some T
 nz:∀ e∈Z,e.1≠T
theorem Fg.other {S:List Nat} (h:Fg Z w W f p sb N pl text here v3 v4 v5 s) (k:Kp S W W') (hS:∀ T∈S,Fg.Far Z w f sb v3 v4 v5 T):Fg Z w W' f p sb N pl text here v3 v4 v5 s:=by
 have hf:=h.flt
 have hfS:f∉S:=fun e=>(hS f e).nf rfl
 have hsS:sb∉S:=fun e=>(hS sb e).ns rfl
 have cf:∀ i,W'.cell? ⟨f,i,none⟩=W.cell? ⟨f,i,none⟩:=fun i=>k.cell (p:=⟨f,i,none⟩) hf hfS
 have ff:∀ i,W'.frozen? ⟨f,i,none⟩=W.frozen? ⟨f,i,none⟩:=fun i=>k.frozen (p:=⟨f,i,none⟩) hf hfS
 refine ⟨⟨k.os.trans h.kp.os,k.tape.trans h.kp.tape,k.output.trans h.kp.output,Nat.le_trans h.kp.size k.size,fun j hj _=>?_⟩,h.flo,h.slo,h.ne,(cf _).trans h.c0,(cf _).trans h.c1,(cf _).trans h.c2,(cf _).trans h.c3,(cf _).trans h.c4,(cf _).trans h.c5,(cf _).trans h.c6,(cf _).trans h.c7,fun j v hv=>(cf _).trans (h.best j v hv),fun i=>(ff i).trans (h.free i),Nat.lt_of_lt_of_le h.slt k.size,fun i hi=>?_,
  owns_of_block h.o3 (fun j hj hl=>k.block j hl (fun e=>(hS j e).n3 hj)),owns_of_block h.o4 (fun j hj hl=>k.block j hl (fun e=>(hS j e).n4 hj)),owns_of_block h.o5 (fun j hj hl=>k.block j hl (fun e=>(hS j e).n5 hj)),h.x3,h.x4,h.x5,fun e he=>⟨(k.block e.1 (lt_of_block (h.fx e he).1) (fun m=>(hS e.1 m).nz e he rfl)).trans (h.fx e he).1,(h.fx e he).2⟩⟩
 ·exact (k.block j (Nat.lt_of_lt_of_le hj h.kp.size) (fun e=>by have:=(hS j e).lo;omega)).trans (h.kp.block j hj (by simp))
 ·have q:=h.seen i hi
  exact ⟨(k.cell (p:=⟨sb,i,none⟩) h.slt hsS).trans q.1,(k.frozen (p:=⟨sb,i,none⟩) h.slt hsS).trans q.2⟩
theorem Fg.keep (h:Fg Z w W f p sb N pl text here v3 v4 v5 s) (k:Kp [] W W'):Fg Z w W' f p sb N pl text here v3 v4 v5 s:=h.other k (fun _ e=>by cases e)
theorem Fg.mark (h:Fg Z w W f p sb N pl text here v3 v4 v5 s) (x:Nat) (_hi:x / 64 < N):Fg Z w (W.setCell ⟨sb,x / 64,none⟩ (.int .u64 (wd (more s.sn x) (x / 64)))) f p sb N pl text here v3 v4 v5 { s with sn:=more s.sn x }:=by
 obtain ⟨v,hv⟩:∃ v:Value,v=.int .u64 (wd (more s.sn x) (x / 64)):=⟨_,rfl⟩
 rw [←hv]
 have k:Kp [sb] W (W.setCell ⟨sb,x / 64,none⟩ v):=Kp.setCell _ _ (by simp)
 have hf:=h.flt
 have cf:∀ j,(W.setCell ⟨sb,x / 64,none⟩ v).cell? ⟨f,j,none⟩=W.cell? ⟨f,j,none⟩:=fun j=>cell_other _ (fun e=>by injection e with e1 _ _;exact h.ne e1)
 have ob:∀ j,j≠sb→(W.setCell ⟨sb,x / 64,none⟩ v).heap[j]? = W.heap[j]?:=fun j hj=>Below.heap_setCell _ _ _ _ hj
 have fz:∀ a,(W.setCell ⟨sb,x / 64,none⟩ v).frozen? a=W.frozen? a:=fun a=>by simp
 refine ⟨Kp.own (x:=sb) ((h.kp.mono (by simp)).trans k) h.slo,h.flo,h.slo,h.ne,(cf _).trans h.c0,(cf _).trans h.c1,(cf _).trans h.c2,(cf _).trans h.c3,(cf _).trans h.c4,(cf _).trans h.c5,(cf _).trans h.c6,(cf _).trans h.c7,fun j u hu=>(cf _).trans (h.best j u hu),fun j=>(fz _).trans (h.free j),Nat.lt_of_lt_of_le h.slt k.size,fun j hj=>?_,
  owns_of_block h.o3 (fun q hq _=>ob q (h.x3 q hq).2.1),owns_of_block h.o4 (fun q hq _=>ob q (h.x4 q hq).2.1),owns_of_block h.o5 (fun q hq _=>ob q (h.x5 q hq).2),h.x3,h.x4,h.x5,fun e he=>⟨(ob e.1 (h.fx e he).2.2.1).trans (h.fx e he).1,(h.fx e he).2⟩⟩
 have q:=h.seen j hj
 refine ⟨?_,(fz _).trans q.2⟩
 by_cases e:j=x / 64
 ·subst e
  rw [cell_same _ q.1,hv]
 ·rw [cell_other _ (fun r=>by injection r with _ r2 _;exact e r2.symm),q.1]
  show _=some (Value.int .u64 (wd (more s.sn x) j:Int))
  rw [more_other _ _ _ e]
theorem Fg.hit {g' c':Nat} {t:Thr} (h:Fg Z w W f p sb N pl text here v3 v4 v5 s) (hc:W'.cell? ⟨f,4,none⟩=some (.slice (some ⟨g',0,none⟩) (s.ahead.length+1) c'))
  (ho:W'.ownsRow w.heap.size 274 22 (.slice (some ⟨g',0,none⟩) (s.ahead.length+1) c') (s.ahead.length+1) (flat s.ahead++tf t.pc t.tk t.x)) (hor:v4.ownBlock=some g'∨W.heap.size≤g') (hh:Hit f v4.ownBlock W W') :
  Fg Z w W' f p sb N pl text here v3 (.slice (some ⟨g',0,none⟩) (s.ahead.length+1) c') v5 { s with ahead:=s.ahead++[t] }:=by
 have hf:=h.flt
 have cf:=hh.cell
 have ob:∀ k,k < W.heap.size→k≠f→v4.ownBlock≠some k→W'.heap[k]? = W.heap[k]?:=fun k hk hkf hk4=>hh.block k hk hkf (fun e=>hk4 e.symm)
 have s4:v4.ownBlock≠some sb:=fun e=>(h.x4 sb e).2.1 rfl
 refine ⟨⟨hh.os.trans h.kp.os,hh.tape.trans h.kp.tape,hh.output.trans h.kp.output,Nat.le_trans h.kp.size hh.size,fun k hk _=>?_⟩,h.flo,h.slo,h.ne,(cf _ (by omega)).trans h.c0,(cf _ (by omega)).trans h.c1,(cf _ (by omega)).trans h.c2,(cf _ (by omega)).trans h.c3,hc,(cf _ (by omega)).trans h.c5,(cf _ (by omega)).trans h.c6,(cf _ (by omega)).trans h.c7,fun j u hu=>(cf _ (by omega)).trans (h.best j u hu),fun i=>(hh.free i).trans (h.free i),Nat.lt_of_lt_of_le h.slt hh.size,fun i hi=>?_,
  owns_of_block h.o3 (fun k hk hl=>ob k hl (h.x3 k hk).1 (h.x3 k hk).2.2.1),by simpa [flat_snoc] using ho,owns_of_block h.o5 (fun k hk hl=>ob k hl (h.x5 k hk).1 (fun e=>(h.x4 k e).2.2 hk)),fun k hk=>?_,fun k hk=>?_,h.x5,fun e he=>?_⟩
 ·have:=h.flo
  exact (ob k (Nat.lt_of_lt_of_le hk h.kp.size) (by omega) (fun e=>by have:=(h.o4.lt k e).1;omega)).trans (h.kp.block k hk (by simp))
 ·have q:=h.seen i hi
  have e:=ob sb h.slt h.ne s4
  exact ⟨(World.cell?_of_block (w:=W) e).trans q.1,(World.frozen?_of_block (w:=W) e).trans q.2⟩
 ·have q:=h.x3 k hk
  refine ⟨q.1,q.2.1,fun e=>?_,q.2.2.2⟩
  have e:g'=k:=by simpa [Value.ownBlock] using e
  subst e
  rcases hor with r | r
  ·exact q.2.2.1 r
  ·have:=(h.o3.lt _ hk).2;omega
 ·have e:k=g':=by simpa [Value.ownBlock] using hk.symm
  subst e
  have:=h.slt
  rcases hor with r | r
  ·exact h.x4 k r
  ·refine ⟨by omega,by omega,fun e=>?_⟩
   have:=(h.o5.lt _ e).2;omega
 ·have q:=h.fx e he
  have l:=lt_of_block q.1
  refine ⟨(ob e.1 l q.2.1 q.2.2.2.2.1).trans q.1,q.2.1,q.2.2.1,q.2.2.2.1,fun r=>?_,q.2.2.2.2.2⟩
  have r:g'=e.1:=by simpa [Value.ownBlock] using r
  rcases hor with u | u
  ·exact q.2.2.2.2.1 (r ▸ u)
  ·omega
theorem Fg.push {g' c':Nat} {t:Thr} (h:Fg Z w W f p sb N pl text here v3 v4 v5 s) (hc:W'.cell? ⟨f,5,none⟩=some (.slice (some ⟨g',0,none⟩) (s.left.length+1) c'))
  (ho:W'.ownsRow w.heap.size 274 22 (.slice (some ⟨g',0,none⟩) (s.left.length+1) c') (s.left.length+1) (flat s.left++tf t.pc t.tk t.x)) (hor:v5.ownBlock=some g'∨W.heap.size≤g') (hh:HitQ 5 f v5.ownBlock W W') :
  Fg Z w W' f p sb N pl text here v3 v4 (.slice (some ⟨g',0,none⟩) (s.left.length+1) c') { s with left:=s.left++[t] }:=by
 have hf:=h.flt
 have cf:=hh.cell
 have ob:∀ k,k < W.heap.size→k≠f→v5.ownBlock≠some k→W'.heap[k]? = W.heap[k]?:=fun k hk hkf hk5=>hh.block k hk hkf (fun e=>hk5 e.symm)
 have s5:v5.ownBlock≠some sb:=fun e=>(h.x5 sb e).2 rfl
 have far:∀ k,(k < W.heap.size)→v5.ownBlock≠some k→k≠g':=fun k hk h5 e=>by
  rcases hor with r | r
  ·exact h5 (by rw [e];exact r)
  ·omega
 refine ⟨⟨hh.os.trans h.kp.os,hh.tape.trans h.kp.tape,hh.output.trans h.kp.output,Nat.le_trans h.kp.size hh.size,fun k hk _=>?_⟩,h.flo,h.slo,h.ne,(cf _ (by omega)).trans h.c0,(cf _ (by omega)).trans h.c1,(cf _ (by omega)).trans h.c2,(cf _ (by omega)).trans h.c3,(cf _ (by omega)).trans h.c4,hc,(cf _ (by omega)).trans h.c6,(cf _ (by omega)).trans h.c7,fun j u hu=>(cf _ (by omega)).trans (h.best j u hu),fun i=>(hh.free i).trans (h.free i),Nat.lt_of_lt_of_le h.slt hh.size,fun i hi=>?_,
  owns_of_block h.o3 (fun k hk hl=>ob k hl (h.x3 k hk).1 (h.x3 k hk).2.2.2),owns_of_block h.o4 (fun k hk hl=>ob k hl (h.x4 k hk).1 (h.x4 k hk).2.2),by simpa [flat_snoc] using ho,fun k hk=>?_,fun k hk=>?_,fun k hk=>?_,fun e he=>?_⟩
 ·have:=h.flo
  exact (ob k (Nat.lt_of_lt_of_le hk h.kp.size) (by omega) (fun e=>by have:=(h.o5.lt k e).1;omega)).trans (h.kp.block k hk (by simp))
 ·have q:=h.seen i hi
  have e:=ob sb h.slt h.ne s5
  exact ⟨(World.cell?_of_block (w:=W) e).trans q.1,(World.frozen?_of_block (w:=W) e).trans q.2⟩
 ·have q:=h.x3 k hk
  exact ⟨q.1,q.2.1,q.2.2.1,fun e=>far k (h.o3.lt _ hk).2 q.2.2.2 (by simpa [Value.ownBlock] using e.symm)⟩
 ·have q:=h.x4 k hk
  exact ⟨q.1,q.2.1,fun e=>far k (h.o4.lt _ hk).2 q.2.2 (by simpa [Value.ownBlock] using e.symm)⟩
 ·have e:k=g':=by simpa [Value.ownBlock] using hk.symm
  subst e
  have:=h.slt
  rcases hor with r | r
  ·exact h.x5 k r
  ·exact ⟨by omega,by omega⟩
 ·have q:=h.fx e he
  have l:=lt_of_block q.1
  refine ⟨(ob e.1 l q.2.1 q.2.2.2.2.2).trans q.1,q.2.1,q.2.2.1,q.2.2.2.1,q.2.2.2.2.1,fun r=>?_⟩
  have r:g'=e.1:=by simpa [Value.ownBlock] using r
  rcases hor with u | u
  ·exact q.2.2.2.2.2 (r ▸ u)
  ·omega
theorem Fg.ends {x:Nat→Int} (h:Fg Z w W f p sb N pl text here v3 v4 v5 s) (en:EndsF f x pl W W'):Fg Z w W' f p sb N pl text here v3 v4 v5 { s with fd:=true,best:=nu x 1 pl }:=by
 have cf:=en.cell
 have ob:∀ k,k < W.heap.size→k≠f→W'.heap[k]? = W.heap[k]?:=fun k hk hkf=>en.kept.block k hk (by simpa using hkf)
 refine ⟨Kp.own (x:=f) ((h.kp.mono (by simp)).trans en.kept) h.flo,h.flo,h.slo,h.ne,(cf _ (by omega)).trans h.c0,(cf _ (by omega)).trans h.c1,(cf _ (by omega)).trans h.c2,(cf _ (by omega)).trans h.c3,(cf _ (by omega)).trans h.c4,(cf _ (by omega)).trans h.c5,(cf _ (by omega)).trans h.c6,en.found,en.best,fun i=>(en.free i).trans (h.free i),Nat.lt_of_lt_of_le h.slt en.kept.size,fun i hi=>?_,
  owns_of_block h.o3 (fun k hk hl=>ob k hl (h.x3 k hk).1),owns_of_block h.o4 (fun k hk hl=>ob k hl (h.x4 k hk).1),owns_of_block h.o5 (fun k hk hl=>ob k hl (h.x5 k hk).1),h.x3,h.x4,h.x5,fun e he=>⟨(ob e.1 (lt_of_block (h.fx e he).1) (h.fx e he).2.1).trans (h.fx e he).1,(h.fx e he).2⟩⟩
 have q:=h.seen i hi
 have e:=ob sb h.slt h.ne
 exact ⟨(World.cell?_of_block (w:=W) e).trans q.1,(World.frozen?_of_block (w:=W) e).trans q.2⟩
end
