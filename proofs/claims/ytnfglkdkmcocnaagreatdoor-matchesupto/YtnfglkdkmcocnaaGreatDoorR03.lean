import Derived.Test.YtnfglkdkmcocnaaGreatDoorR01
import Derived.Test.YtnfglkdkmcocnaaGreatDoorR02
set_option maxRecDepth 100000
set_option maxHeartbeats 16000000
set_option linter.all false
namespace Go.Proofs.YtnfglkdkmcocnaaGreatDoor
open Go.RowKit
theorem step_byte_end {w:World} {f p t g n c a pl:Nat} {text:ByteArray}
  (c0:w.cell? ⟨f,0,none⟩=some (.pointer (some ⟨p,0,none⟩))) (c1:w.cell? ⟨f,1,none⟩=some (.string text)) (c2:w.cell? ⟨f,2,none⟩=some (.int .i64 pl))
  (p0:w.cell? ⟨p,0,none⟩=some (.slice (some ⟨g,0,none⟩) n c)) (t0:w.cell? ⟨t,0,none⟩=some (.int .i64 a)) (ha:a < n)
  (i0:w.cell? ⟨g,a * 9,none⟩=some (.int .i64 0)) (hlt:decide (pl < text.size)=false) :
  Calls Tryz.prog 244 #[.pointer (some ⟨f,0,none⟩),.pointer (some ⟨t,0,none⟩)] w fun e w'=>e=.returned (.bool false)∧Kp [] w w':=by
 go_enter Tryz.func244,Tryz.ntmps244
 go_wp2
 go_quiet (fail)
 go_wp2
 go_quiet (fail)
 go_wp2
 go_ret
 exact ⟨rfl,(Kp.drewN _ _ _).trans (Kp.drewN _ _ _)⟩
structure Ext (W:World) where
 val:World
 ok:Kp [] W val
theorem wp_region_ext {P:Program} {id:Nat} {Q:Exit→Act→World→Prop} {a:Act} {w:World} {l:List Oper} (hm:P.follows .mixedOrders=true) (hB:Region.lexB .any l.toArray=true)
  (h:wpQuiet P l.toArray (fun w'=>∃ x:Ext w,w'=x.val) (fun a'=>∀ w',(∃ x:Ext w,w'=x.val)→Q .normal a' w') l a):(Code.region id l.toArray true).wp P Q a w:=
 wp_region_quiet (C:=fun w'=>∃ x:Ext w,w'=x.val) hm hB ⟨⟨w.drew,Kp.drew _ _⟩,rfl⟩ (by simpa using h)
theorem Ext.cell {W:World} {a:Addr} {v:Value} (h:W.cell? a=some v):∀ x:Ext W,x.val.cell? a=some v:=fun x=>(x.ok.cell (World.block_lt_of_cell? _ _ h) (by simp)).trans h
theorem has_ext (m:Nat→Bool) (y:Nat) (hy:y < 256) {b:Bool} (hb:m y=b) {W:World} (x:Ext W) :
  Calls Tryz.prog 266 #[setV m,.int .u8 y] x.val fun e w''=>e=.returned (.bool b)∧∃ z:Ext W,w''=z.val:=by
 subst hb
 exact (has_any m y hy x.val).mono fun e w'' ⟨he,k⟩=>⟨he,⟨w'',x.ok.trans k⟩,rfl⟩
theorem step_byte_miss {w:World} {f p t g n c a pl:Nat} {text:ByteArray} {m:Nat→Bool}
  (c0:w.cell? ⟨f,0,none⟩=some (.pointer (some ⟨p,0,none⟩))) (c1:w.cell? ⟨f,1,none⟩=some (.string text)) (c2:w.cell? ⟨f,2,none⟩=some (.int .i64 pl))
  (p0:w.cell? ⟨p,0,none⟩=some (.slice (some ⟨g,0,none⟩) n c)) (t0:w.cell? ⟨t,0,none⟩=some (.int .i64 a)) (ha:a < n)
  (i0:w.cell? ⟨g,a * 9,none⟩=some (.int .i64 0)) (i5:w.cell? ⟨g,a * 9+5,none⟩=some (.int .u64 (wd m 0))) (i6:w.cell? ⟨g,a * 9+5+1,none⟩=some (.int .u64 (wd m 1)))
  (i7:w.cell? ⟨g,a * 9+5+2,none⟩=some (.int .u64 (wd m 2))) (i8:w.cell? ⟨g,a * 9+5+3,none⟩=some (.int .u64 (wd m 3)))
  (hlt:pl < text.size) (hm:m (text[pl]).toNat=false) :
  Calls Tryz.prog 244 #[.pointer (some ⟨f,0,none⟩),.pointer (some ⟨t,0,none⟩)] w fun e w'=>e=.returned (.bool false)∧Kp [] w w':=by
 have HM:=hid hm
 clear hm
 go_enter Tryz.func244,Tryz.ntmps244
 go_wp2
 go_quiet (fail)
 go_wp2
 generalize hw1:w.drewN nq=w1
 have k1:Kp [] w w1:=by rw [←hw1];exact Kp.drewN _ _ _
 clear hw1
 have d1:=Ext.cell ((k1.cell (World.block_lt_of_cell? _ _ c1) (by simp)).trans c1)
 have d2:=Ext.cell ((k1.cell (World.block_lt_of_cell? _ _ c2) (by simp)).trans c2)
 have d5:=Ext.cell ((k1.cell (World.block_lt_of_cell? _ _ i5) (by simp)).trans i5)
 have d6:=Ext.cell ((k1.cell (World.block_lt_of_cell? _ _ i6) (by simp)).trans i6)
 have d7:=Ext.cell ((k1.cell (World.block_lt_of_cell? _ _ i7) (by simp)).trans i7)
 have d8:=Ext.cell ((k1.cell (World.block_lt_of_cell? _ _ i8) (by simp)).trans i8)
 clear c0 c1 c2 p0 t0 i0 i5 i6 i7 i8
 have hne:Nonempty (Ext w1):=⟨⟨w1,Kp.refl _ _⟩⟩
 refine wp_region_ext (by kernel_rfl) (by kernel_rfl) ?_
 repeat (refine wpQuiet_step (fun K hK=>?_);go_simp;first | (refine hK _ ?_;clear hK K) | (apply Exists.intro;refine ⟨fun x=>?_,hK _ ?_⟩;exact has_ext m _ (UInt8.toNat_lt _) HM.out x;clear hK K))
 refine wpQuiet_nil ?_
 intro w' hw'
 obtain ⟨x,hx⟩:=hw'
 subst hx
 go_wp2
 go_ret
 exact ⟨rfl,k1.trans x.ok⟩
theorem Tryz.infoTh:(Tryz.prog.info? 274).map (fun i=>(i.zero,i.size,i.bytes))=some (some (.agg #[.int .i64 0,.int .i64 0,.int .i64 0,.int .i64 0,.int .i64 0,.int .i64 0,.int .i64 0,.int .i64 0,.int .i64 0,.int .i64 0,.int .i64 0,.int .i64 0,.int .i64 0,.int .i64 0,.int .i64 0,.int .i64 0,.int .i64 0,.int .i64 0,.int .i64 0,.int .i64 0,.int .i64 0,.int .i64 0]),22,176):=by kernel_rfl
theorem grown_cell' {W w':World} {row:Option Nat} (hg:W.grownBy w' row) {p:Addr} (hp:some p.block≠row) {v:Value} (h:W.cell? p=some v):w'.cell? p=some v:=
 (World.cell?_of_block (w:=W) (hg.block p.block (World.block_lt_of_cell? _ _ h) hp)).trans h
theorem grown_free' {W w':World} {row:Option Nat} (hg:W.grownBy w' row) {p:Addr} (hp:some p.block≠row) (hl:p.block < W.heap.size):w'.frozen? p=W.frozen? p:=
 World.frozen?_of_block (w:=W) (hg.block p.block hl hp)
theorem rangeAt_keep {S:List Nat} {w w':World} {b o:Nat} {cs:List Value} (h:w.rangeAt b o cs) (k:Kp S w w') (hb:b∉S):w'.rangeAt b o cs:=
 fun j v hv=>(k.cell (World.block_lt_of_cell? _ _ (h j v hv)) hb).trans (h j v hv)
theorem rangeAt_grown {W w':World} {row:Option Nat} {b o:Nat} {cs:List Value} (h:W.rangeAt b o cs) (hg:W.grownBy w' row) (hp:some b≠row):w'.rangeAt b o cs:=
 fun j v hv=>grown_cell' hg hp (h j v hv)
theorem ownsRow_setCell_far {w:World} {base size n:Nat} {e:TypeId} {g c:Nat} {xs:List Value} (h:w.ownsRow base e size (.slice (some ⟨g,0,none⟩) n c) n xs) {a:Addr} (ha:g≠a.block) {u:Value}:(w.setCell a u).ownsRow base e size (.slice (some ⟨g,0,none⟩) n c) n xs:=by
 refine ⟨h.1,?_⟩
 rcases h.2 with q | ⟨g',cap,cur,q1,q2,q3,q4⟩
 ·exact .inl q
 ·refine .inr ⟨g',cap,cur,q1,q2,?_,q4⟩
  have e:g=g':=by simp at q1;exact q1.1
  rw [Below.heap_setCell _ _ _ _ (e ▸ ha)];exact q3
theorem cell_ad {w:World} {a:Addr} {v:Value} (h:w.cell? a=some v) (o:Obj):(w.alloc o).drew.cell? a=some v:=
 ((Kp.alloc [] w o).cell (World.block_lt_of_cell? _ _ h) (by simp)).trans h
theorem free_ad {w:World} {a:Addr} {v:Value} (hc:w.cell? a=some v) (h:w.frozen? a=false) (o:Obj):(w.alloc o).drew.frozen? a=false:=
 ((Kp.alloc [] w o).frozen (World.block_lt_of_cell? _ _ hc) (by simp)).trans h
theorem range_ad {w:World} {b k:Nat} {cs:List Value} (h:w.rangeAt b k cs) (o:Obj):(w.alloc o).drew.rangeAt b k cs:=fun j v hv=>cell_ad (h j v hv) o
structure Hit (f:Nat) (row:Option Nat) (w w':World):Prop where
 os:w'.os=w.os
 tape:w'.tape=w.tape
 output:w'.output=w.output
 size:w.heap.size≤w'.heap.size
 block:∀ k,k < w.heap.size→k≠f→some k≠row→w'.heap[k]? = w.heap[k]?
 cell:∀ i,i≠4→w'.cell? ⟨f,i,none⟩=w.cell? ⟨f,i,none⟩
 free:∀ i,w'.frozen? ⟨f,i,none⟩=w.frozen? ⟨f,i,none⟩
theorem step_post {w w2 w3:World} {f B nA g' c':Nat} {v4:Value} {xs ys:List Value} {o:Obj} (hc:w.cell? ⟨f,4,none⟩=some v4) (k2:Kp [] w w2) (_ho:w2.ownsRow B 274 22 v4 nA xs)
  (hown:w3.ownsRow B 274 22 (.slice (some ⟨g',0,none⟩) (nA+1) c') (nA+1) ys) (hg:((w2.alloc o).drew).grownBy w3 v4.ownBlock) (hor:v4.ownBlock=some g'∨((w2.alloc o).drew).heap.size≤g')
  (hf4:some f≠v4.ownBlock) (hc3:w3.cell? ⟨f,4,none⟩=some v4) :
  ∃ g c,(w3.setCell ⟨f,4,none⟩ (.slice (some ⟨g',0,none⟩) (nA+1) c')).cell? ⟨f,4,none⟩=some (.slice (some ⟨g,0,none⟩) (nA+1) c) ∧
   (w3.setCell ⟨f,4,none⟩ (.slice (some ⟨g',0,none⟩) (nA+1) c')).ownsRow B 274 22 (.slice (some ⟨g,0,none⟩) (nA+1) c) (nA+1) ys∧(v4.ownBlock=some g∨w.heap.size≤g) ∧
   Hit f v4.ownBlock w (w3.setCell ⟨f,4,none⟩ (.slice (some ⟨g',0,none⟩) (nA+1) c')):=by
 have hlt:=World.block_lt_of_cell? _ _ hc
 have kW:Kp [] w ((w2.alloc o).drew):=k2.trans ((Kp.alloc _ _ _).trans (Kp.drew _ _))
 have hz:=kW.size
 have hgf:g'≠f:=fun e=>by
  rcases hor with h | h
  ·rw [h,e] at hf4;exact hf4 rfl
  ·rw [e] at h;have:=hlt;simp at this;omega
 refine ⟨g',c',cell_same _ hc3,?_,hor.imp id (fun h=>Nat.le_trans hz h),?_⟩
 ·exact ownsRow_setCell_far hown hgf
 ·refine ⟨hg.os.trans kW.os,hg.tape.trans kW.tape,hg.output.trans kW.output,?_,fun k hk hkf hkr=>?_,fun i hi=>?_,fun i=>?_⟩
  ·have:=hg.size;simp [World.setCell] at this ⊢;have:=k2.size;omega
  ·rw [Below.heap_setCell _ _ _ _ hkf]
   exact (hg.block k (Nat.lt_of_lt_of_le hk hz) hkr).trans (kW.block k hk (by simp))
  ·rw [cell_other _ (fun h=>hi (by injection h with _ h2 _;exact h2.symm))]
   exact (World.cell?_of_block (w:=(w2.alloc o).drew) (hg.block f (Nat.lt_of_lt_of_le hlt hz) hf4)).trans (kW.cell hlt (by simp))
  ·have h1:(w3.setCell ⟨f,4,none⟩ (.slice (some ⟨g',0,none⟩) (nA+1) c')).frozen? ⟨f,i,none⟩=w3.frozen? ⟨f,i,none⟩:=by simp
   rw [h1]
   exact (grown_free' hg (p:=⟨f,i,none⟩) hf4 (Nat.lt_of_lt_of_le hlt hz)).trans (kW.frozen hlt (by simp))
theorem there_seven {w:World} {f:Nat} (h:w.there f 8 20) (v:Value) (n:Nat):((w.drewN n).setCell ⟨f,7,none⟩ v).there f 8 20:=fun j hj=>by
 have q:=h j hj
 refine ⟨?_,?_⟩
 ·rw [cell_other _ (fun e=>by injection e with _ e2 _;omega)];exact q.1
 ·have h1:((w.drewN n).setCell ⟨f,7,none⟩ v).frozen? ⟨f,8+j,none⟩=w.frozen? ⟨f,8+j,none⟩:=by simp
  rw [h1];exact q.2
theorem ownsRow_empty {w:World} {base size n:Nat} {e:TypeId} {g c:Nat} {xs:List Value} (h:w.ownsRow base e size (.slice (some ⟨g,0,none⟩) n c) n xs):w.ownsRow base e size (.slice (some ⟨g,0,none⟩) 0 c) 0 []:=by
 refine ⟨by simp,?_⟩
 rcases h.2 with ⟨q,_⟩ | ⟨g',cap,cur,q1,q2,q3,q4,q5,q6,_⟩
 ·simp at q
 ·simp at q1
  obtain ⟨rfl,rfl⟩:=q1
  exact .inr ⟨g,c,cur,rfl,q2,q3,Nat.zero_le _,q5,q6,by simp⟩
theorem own_ne_new {w:World} {base size n:Nat} {e:TypeId} {v:Value} {xs:List Value} (h:w.ownsRow base e size v n xs):some w.heap.size≠v.ownBlock:=by
 rcases h.2 with ⟨hv,_⟩ | ⟨g,cap,cur,hv,_,q3,_⟩
 ·rw [hv];simp [Value.ownBlock]
 ·rw [hv]
  have:=lt_of_block q3
  simp [Value.ownBlock];omega
theorem Tryz.szThread:(Tryz.prog.info? 274).map (·.size)=some 22:=by kernel_rfl
structure Swapped (f:Nat) (v3 v4:Value) (w w':World):Prop where
 c3:w'.cell? ⟨f,3,none⟩=some v3
 c4:w'.cell? ⟨f,4,none⟩=some v4
 cell:∀ i,i≠3→i≠4→w'.cell? ⟨f,i,none⟩=w.cell? ⟨f,i,none⟩
 free:∀ i,w'.frozen? ⟨f,i,none⟩=w.frozen? ⟨f,i,none⟩
 kept:Kp [f] w w'
theorem swapped_of {f:Nat} {v u a b:Value} {w:World} (e3:w.cell? ⟨f,3,none⟩=some a) (e4:w.cell? ⟨f,4,none⟩=some b):Swapped f v u w (((w.setCell ⟨f,3,none⟩ v).setCell ⟨f,4,none⟩ u).drew):=by
 have n34:(⟨f,3,none⟩:Addr)≠⟨f,4,none⟩:=fun e=>by injection e with _ e2 _;omega
 refine ⟨?_,?_,fun i h3 h4=>?_,fun i=>?_,(Kp.setCell _ _ (by simp)).trans ((Kp.setCell _ _ (by simp)).trans (Kp.drew _ _))⟩
 ·exact (cell_other (w:=w.setCell ⟨f,3,none⟩ v) _ (Ne.symm n34)).trans (cell_same _ e3)
 ·exact cell_same (w:=w.setCell ⟨f,3,none⟩ v) _ ((cell_other _ n34).trans e4)
 ·exact (cell_other (w:=w.setCell ⟨f,3,none⟩ v) _ (fun e=>by injection e with _ e2 _;exact h4 e2.symm)).trans (cell_other _ (fun e=>by injection e with _ e2 _;exact h3 e2.symm))
 ·have h1:(((w.setCell ⟨f,3,none⟩ v).setCell ⟨f,4,none⟩ u).drew).frozen? ⟨f,i,none⟩=w.frozen? ⟨f,i,none⟩:=by simp
  exact h1
theorem owns_of_block {w w':World} {base size n:Nat} {e:TypeId} {v:Value} {xs:List Value} (h:w.ownsRow base e size v n xs) (hb:∀ k,v.ownBlock=some k→k < w.heap.size→w'.heap[k]? = w.heap[k]?):w'.ownsRow base e size v n xs:=by
 refine ⟨h.1,?_⟩
 rcases h.2 with q | ⟨g,cap,cur,q1,q2,q3,q4⟩
 ·exact .inl q
 ·exact .inr ⟨g,cap,cur,q1,q2,(hb g (by rw [q1];rfl) (lt_of_block q3)).trans q3,q4⟩
theorem slice_of {w:World} {base size n:Nat} {e:TypeId} {v:Value} {xs:List Value} (h:w.ownsRow base e size v n xs):∃ ao n c,v=.slice ao n c:=by
 rcases h.2 with ⟨q,_⟩ | ⟨g,cap,cur,q1,_⟩
 ·exact ⟨_,_,_,q⟩
 ·exact ⟨_,_,_,q1⟩
theorem row_at {w:World} {base size n gh ch:Nat} {e:TypeId} {xs:List Value} (h:w.ownsRow base e size (.slice (some ⟨gh,0,none⟩) n ch) n xs):w.rangeAt gh 0 xs:=fun j u hu=>by
 have hj:j < n * size:=by rw [←h.1];exact (List.getElem?_eq_some_iff.1 hu).1
 rw [Nat.zero_add,h.cellAt j hj];exact hu
theorem row_cap {w:World} {base size n gh ch:Nat} {e:TypeId} {xs:List Value} (h:w.ownsRow base e size (.slice (some ⟨gh,0,none⟩) n ch) n xs):n≤ch:=by
 rcases h.2 with ⟨q,_⟩ | ⟨g,cap,cur,q1,_,_,q4,_⟩
 ·cases q
 ·simp at q1
  omega
abbrev nf (x:Nat→Int):List Value:=[.int .i64 (x 0),.int .i64 (x 1),.int .i64 (x 2),.int .i64 (x 3),.int .i64 (x 4),.int .i64 (x 5),.int .i64 (x 6),.int .i64 (x 7),.int .i64 (x 8),.int .i64 (x 9),.int .i64 (x 10),.int .i64 (x 11),.int .i64 (x 12),.int .i64 (x 13),.int .i64 (x 14),.int .i64 (x 15),.int .i64 (x 16),.int .i64 (x 17),.int .i64 (x 18),.int .i64 (x 19)]
abbrev tf (next depth:Int) (x:Nat→Int):List Value:=.int .i64 next::.int .i64 depth::nf x
theorem tf_one (next depth:Int) (x:Nat→Int):∀ u∈tf next depth x,u.oneCell'=true:=by
 intro u hu
 simp only [tf,nf,List.mem_cons,List.not_mem_nil,or_false] at hu
 rcases hu with h | h | h | h | h | h | h | h | h | h | h | h | h | h | h | h | h | h | h | h | h | h <;> subst h <;> rfl
theorem nf_all (x:Nat→Int):(nf x).toArray.all (·.oneCell')=true:=all_oneCell_toArray (fun v hv=>tf_one 0 0 x v (List.mem_cons_of_mem _ (List.mem_cons_of_mem _ hv)))
theorem nf_get (x:Nat→Int) (j:Nat) (h:j < 20):(nf x)[j]? = some (.int .i64 (x j)):=by
 match j,h with
 | 0,_ | 1,_ | 2,_ | 3,_ | 4,_ | 5,_ | 6,_ | 7,_ | 8,_ | 9,_ | 10,_ | 11,_ | 12,_ | 13,_ | 14,_ | 15,_ | 16,_ | 17,_ | 18,_ | 19,_=>rfl
 | n+20,h=>exact absurd h (by omega)
def nz (v:Int):Nat→Int:=fun i=>if i=0 then v else -1
theorem hit_any {w:World} {f p t g n c a pl B nA:Nat} {text:ByteArray} {m:Nat→Bool} {v4:Value} {xs:List Value} {nx dp:Int} {x:Nat→Int}
  (c0:w.cell? ⟨f,0,none⟩=some (.pointer (some ⟨p,0,none⟩))) (c1:w.cell? ⟨f,1,none⟩=some (.string text)) (c2:w.cell? ⟨f,2,none⟩=some (.int .i64 pl))
  (c4:w.cell? ⟨f,4,none⟩=some v4) (f4:w.frozen? ⟨f,4,none⟩=false) (hown:w.ownsRow B 274 22 v4 nA xs) (hB:B≤w.heap.size) (hf4:some f≠v4.ownBlock) (hg4:some g≠v4.ownBlock) (ht4:some t≠v4.ownBlock) (hnA:nA≤100000)
  (p0:w.cell? ⟨p,0,none⟩=some (.slice (some ⟨g,0,none⟩) n c)) (t0:w.cell? ⟨t,0,none⟩=some (.int .i64 a)) (hr:w.rangeAt t 2 (nf x)) (ha:a < n)
  (i0:w.cell? ⟨g,a * 9,none⟩=some (.int .i64 0)) (i1:w.cell? ⟨g,a * 9+1,none⟩=some (.int .i64 nx)) (i4:w.cell? ⟨g,a * 9+4,none⟩=some (.int .i64 dp))
  (i5:w.cell? ⟨g,a * 9+5,none⟩=some (.int .u64 (wd m 0))) (i6:w.cell? ⟨g,a * 9+5+1,none⟩=some (.int .u64 (wd m 1)))
  (i7:w.cell? ⟨g,a * 9+5+2,none⟩=some (.int .u64 (wd m 2))) (i8:w.cell? ⟨g,a * 9+5+3,none⟩=some (.int .u64 (wd m 3)))
  (hlt:pl < text.size) (hm:m (text[pl]).toNat=true) :
  Calls Tryz.prog 244 #[.pointer (some ⟨f,0,none⟩),.pointer (some ⟨t,0,none⟩)] w fun e w'=>e=.returned (.bool false) ∧
   ∃ g' c',w'.cell? ⟨f,4,none⟩=some (.slice (some ⟨g',0,none⟩) (nA+1) c')∧w'.ownsRow B 274 22 (.slice (some ⟨g',0,none⟩) (nA+1) c') (nA+1) (xs++tf nx dp x)∧(v4.ownBlock=some g'∨w.heap.size≤g') ∧
    Hit f v4.ownBlock w w':=by
 have HM:=hid hm
 obtain ⟨ti,hi,hz0,hz1,hz2⟩:=info_parts Tryz.infoTh
 have HI:=hid hi
 have HZ:=hid (And.intro hz0 (And.intro hz1 hz2))
 clear hm hi hz0 hz1 hz2
 go_enter Tryz.func244,Tryz.ntmps244
 go_wp2
 go_quiet (fail)
 go_wp2
 generalize hw1:w.drewN nq=w1
 have k1:Kp [] w w1:=by rw [←hw1];exact Kp.drewN _ _ _
 clear hw1
 have d1:=Ext.cell ((k1.cell (World.block_lt_of_cell? _ _ c1) (by simp)).trans c1)
 have d2:=Ext.cell ((k1.cell (World.block_lt_of_cell? _ _ c2) (by simp)).trans c2)
 have d5:=Ext.cell ((k1.cell (World.block_lt_of_cell? _ _ i5) (by simp)).trans i5)
 have d6:=Ext.cell ((k1.cell (World.block_lt_of_cell? _ _ i6) (by simp)).trans i6)
 have d7:=Ext.cell ((k1.cell (World.block_lt_of_cell? _ _ i7) (by simp)).trans i7)
 have d8:=Ext.cell ((k1.cell (World.block_lt_of_cell? _ _ i8) (by simp)).trans i8)
 have C4:=hid c4
 have F4:=hid f4
 have HO:=hid hown
 have HR:=hid hr
 have I1:=hid i1
 have I4:=hid i4
 clear c0 c1 c2 p0 t0 i0 i1 i4 i5 i6 i7 i8 c4 f4 hown hr
 have hne:Nonempty (Ext w1):=⟨⟨w1,Kp.refl _ _⟩⟩
 refine wp_region_ext (by kernel_rfl) (by kernel_rfl) ?_
 repeat (refine wpQuiet_step (fun K hK=>?_);go_simp;first | (refine hK _ ?_;clear hK K) | (apply Exists.intro;refine ⟨fun x=>?_,hK _ ?_⟩;exact has_ext m _ (UInt8.toNat_lt _) HM.out x;clear hK K))
 refine wpQuiet_nil ?_
 intro w' hw'
 obtain ⟨y,hy⟩:=hw'
 subst hy
 have k2:Kp [] w y.val:=k1.trans y.ok
 generalize y.val=w2 at *
 clear d1 d2 d5 d6 d7 d8 hne
 go_wp2
 have e4:=(k2.cell (World.block_lt_of_cell? _ _ C4.out) (by simp)).trans C4.out
 have ef4:=(k2.frozen (p:=⟨f,4,none⟩) (World.block_lt_of_cell? _ _ C4.out) (by simp)).trans F4.out
 have j1:=(k2.cell (World.block_lt_of_cell? _ _ I1.out) (by simp)).trans I1.out
 have j4:=(k2.cell (World.block_lt_of_cell? _ _ I4.out) (by simp)).trans I4.out
 have r2:=rangeAt_keep HR.out k2 (by simp)
 have HO2:=hid (ownsRow_keep HO.out k2 (by simp))
 have hB2:=hid (Nat.le_trans hB k2.size)
 have HT:=hid (tf_one nx dp x)
 refine wp_region_noPanic ?_
 refine wp_region_T (fun w'=>w'.cell? ⟨f,4,none⟩=some v4∧w'.cell? ⟨g,a * 9+1,none⟩=some (.int .i64 nx)∧w'.cell? ⟨g,a * 9+4,none⟩=some (.int .i64 dp)∧w'.rangeAt t 2 (nf x)) 22 (by kernel_rfl) ?_
 have hS:(fun w':World=>w'.cell? ⟨f,4,none⟩=some v4∧w'.cell? ⟨g,a * 9+1,none⟩=some (.int .i64 nx)∧w'.cell? ⟨g,a * 9+4,none⟩=some (.int .i64 dp)∧w'.rangeAt t 2 (nf x)) w2.drew:=⟨e4,j1,j4,r2⟩
 refine tk1 0 (v:=?_) rfl (by kernel_rfl) (fun _ _ _ h=>h) ⟨rfl,fun w hSw=>?_⟩ hS ?_;rotate_left;· ((try dsimp only at hSw);go_simp;(try with_reducible rfl))
 (try simp only [List.getElem_toArray,List.getElem_cons_succ,List.getElem_cons_zero,Act.put,List.setIfInBounds_toArray,List.set_cons_zero,List.set_cons_succ])
 refine tk1 1 (v:=?_) rfl (by kernel_rfl) (fun _ _ _ h=>h) ⟨rfl,fun w hSw=>?_⟩ hS ?_;rotate_left;· ((try dsimp only at hSw);go_simp;(try with_reducible rfl))
 (try simp only [List.getElem_toArray,List.getElem_cons_succ,List.getElem_cons_zero,Act.put,List.setIfInBounds_toArray,List.set_cons_zero,List.set_cons_succ])
 refine tk1 2 (v:=?_) rfl (by kernel_rfl) (fun _ _ _ h=>h) ⟨rfl,fun w hSw=>?_⟩ hS ?_;rotate_left;· ((try dsimp only at hSw);go_simp;(try with_reducible rfl))
 (try simp only [List.getElem_toArray,List.getElem_cons_succ,List.getElem_cons_zero,Act.put,List.setIfInBounds_toArray,List.set_cons_zero,List.set_cons_succ])
 refine tk1 3 (v:=?_) rfl (by kernel_rfl) (fun _ _ _ h=>h) ⟨rfl,fun w hSw=>?_⟩ hS ?_;rotate_left;· ((try dsimp only at hSw);go_simp;(try with_reducible rfl))
 (try simp only [List.getElem_toArray,List.getElem_cons_succ,List.getElem_cons_zero,Act.put,List.setIfInBounds_toArray,List.set_cons_zero,List.set_cons_succ])
 refine tk1 4 (v:=?_) rfl (by kernel_rfl) (fun _ _ _ h=>h) ⟨rfl,fun w hSw=>?_⟩ hS ?_;rotate_left;· ((try dsimp only at hSw);go_simp;(try with_reducible rfl))
 (try simp only [List.getElem_toArray,List.getElem_cons_succ,List.getElem_cons_zero,Act.put,List.setIfInBounds_toArray,List.set_cons_zero,List.set_cons_succ])
 refine tk1 5 (v:=?_) rfl (by kernel_rfl) (fun _ _ _ h=>h) ⟨rfl,fun w hSw=>?_⟩ hS ?_;rotate_left;· ((try dsimp only at hSw);go_simp;(try with_reducible rfl))
 (try simp only [List.getElem_toArray,List.getElem_cons_succ,List.getElem_cons_zero,Act.put,List.setIfInBounds_toArray,List.set_cons_zero,List.set_cons_succ])
 refine tk1 6 (v:=?_) rfl (by kernel_rfl) (fun _ _ _ h=>h) ⟨rfl,fun w hSw=>?_⟩ hS ?_;rotate_left;· ((try dsimp only at hSw);go_simp;(try with_reducible rfl))
 (try simp only [List.getElem_toArray,List.getElem_cons_succ,List.getElem_cons_zero,Act.put,List.setIfInBounds_toArray,List.set_cons_zero,List.set_cons_succ])
 refine tk1 7 (v:=?_) rfl (by kernel_rfl) (fun _ _ _ h=>h) ⟨rfl,fun w hSw=>?_⟩ hS ?_;rotate_left;· ((try dsimp only at hSw);go_simp;(try with_reducible rfl))
 (try simp only [List.getElem_toArray,List.getElem_cons_succ,List.getElem_cons_zero,Act.put,List.setIfInBounds_toArray,List.set_cons_zero,List.set_cons_succ])
 refine tk1 8 (v:=?_) rfl (by kernel_rfl) (fun _ _ _ h=>h) ⟨rfl,fun w hSw=>?_⟩ hS ?_;rotate_left;· ((try dsimp only at hSw);go_simp;(try with_reducible rfl))
 (try simp only [List.getElem_toArray,List.getElem_cons_succ,List.getElem_cons_zero,Act.put,List.setIfInBounds_toArray,List.set_cons_zero,List.set_cons_succ])
 refine tk1 9 (v:=?_) rfl (by kernel_rfl) (fun _ _ _ h=>h) ⟨rfl,fun w hSw=>?_⟩ hS ?_;rotate_left;· ((try dsimp only at hSw);go_simp;(try with_reducible rfl))
 (try simp only [List.getElem_toArray,List.getElem_cons_succ,List.getElem_cons_zero,Act.put,List.setIfInBounds_toArray,List.set_cons_zero,List.set_cons_succ])
 refine tk1 10 (v:=?_) rfl (by kernel_rfl) (fun _ _ _ h=>h) ⟨rfl,fun w hSw=>?_⟩ hS ?_;rotate_left;· ((try dsimp only at hSw);go_simp;(try with_reducible rfl))
 (try simp only [List.getElem_toArray,List.getElem_cons_succ,List.getElem_cons_zero,Act.put,List.setIfInBounds_toArray,List.set_cons_zero,List.set_cons_succ])
 refine tk1 11 (v:=?_) rfl (by kernel_rfl) (fun _ _ _ h=>h) ⟨rfl,fun w hSw=>?_⟩ hS ?_;rotate_left;· ((try dsimp only at hSw);go_simp;(try with_reducible rfl))
 (try simp only [List.getElem_toArray,List.getElem_cons_succ,List.getElem_cons_zero,Act.put,List.setIfInBounds_toArray,List.set_cons_zero,List.set_cons_succ])
 refine tk1 12 (v:=?_) rfl (by kernel_rfl) (fun _ _ _ h=>h) ⟨rfl,fun w hSw=>?_⟩ hS ?_;rotate_left;· ((try dsimp only at hSw);go_simp;(try with_reducible rfl))
 (try simp only [List.getElem_toArray,List.getElem_cons_succ,List.getElem_cons_zero,Act.put,List.setIfInBounds_toArray,List.set_cons_zero,List.set_cons_succ])
 refine tk1 13 (v:=?_) rfl (by kernel_rfl) (fun _ _ _ h=>h) ⟨rfl,fun w hSw=>?_⟩ hS ?_;rotate_left;· ((try dsimp only at hSw);go_simp;(try with_reducible rfl))
 (try simp only [List.getElem_toArray,List.getElem_cons_succ,List.getElem_cons_zero,Act.put,List.setIfInBounds_toArray,List.set_cons_zero,List.set_cons_succ])
 refine tk1 14 (v:=?_) rfl (by kernel_rfl) (fun _ _ _ h=>h) ⟨rfl,fun w hSw=>?_⟩ hS ?_;rotate_left;· ((try dsimp only at hSw);go_simp;(try with_reducible rfl))
 (try simp only [List.getElem_toArray,List.getElem_cons_succ,List.getElem_cons_zero,Act.put,List.setIfInBounds_toArray,List.set_cons_zero,List.set_cons_succ])
 refine tk1 15 (v:=?_) rfl (by kernel_rfl) (fun _ _ _ h=>h) ⟨rfl,fun w hSw=>?_⟩ hS ?_;rotate_left;· ((try dsimp only at hSw);go_simp;(try with_reducible rfl))
 (try simp only [List.getElem_toArray,List.getElem_cons_succ,List.getElem_cons_zero,Act.put,List.setIfInBounds_toArray,List.set_cons_zero,List.set_cons_succ])
 refine wpAnyT_take (i:=16) (v:=.agg (nf x).toArray) rfl (by kernel_rfl) (by kernel_rfl) (by kernel_rfl) (by kernel_rfl) (fun _ _ _ h=>h) (Or.inl ⟨by rfl,?y16⟩) hS ?_
 case y16=>(intro w hw;have hl:=run_loadAt_mid (P:=Tryz.prog) w t 2 237 (nf x) _ hw.2.2.2 Tryz.underlying237 rfl Tryz.szNotes;clear hw;simp only [execOp,List.getElem_toArray,List.getElem_cons_succ,List.getElem_cons_zero];show Sem.run Tryz.prog (Instr.loadAt 237 (.pointer (some ⟨t,2,none⟩)) >>= fun u=>pure (Next.value u)) w=_;rw [Sem.run_bind,hl];rfl)
 simp only [List.getElem_toArray,List.getElem_cons_succ,List.getElem_cons_zero,Act.put,List.setIfInBounds_toArray,List.set_cons_zero,List.set_cons_succ]
 refine tk1 17 (v:=?_) rfl (by kernel_rfl) (fun _ _ _ h=>h) ⟨rfl,fun w hSw=>?_⟩ hS ?_;rotate_left;· ((try dsimp only at hSw);go_simp;(try with_reducible rfl))
 (try simp only [List.getElem_toArray,List.getElem_cons_succ,List.getElem_cons_zero,Act.put,List.setIfInBounds_toArray,List.set_cons_zero,List.set_cons_succ])
 refine wpAnyT_one (i:=18) (by kernel_rfl) rfl (fun K hK=>?_)
 go_simp
 refine hK.out _ _ (.inr ⟨cell_ad e4 _,cell_ad j1 _,cell_ad j4 _,range_ad r2 _⟩) ?_
 clear hK K
 refine wpAnyT_one (i:=19) (by kernel_rfl) rfl (fun K hK=>?_)
 refine step_append2 (by rfl) (.tmp 54) (.tmp 68) 235 (by rfl) B 274 ti _ 22 176 Tryz.underlying235 HI.out HZ.out.1 HZ.out.2.1 HZ.out.2.2 rfl (by decide) v4 nA xs (by rfl) (HO2.out.alloc _).drew ⟨w2.heap.size,0,none⟩ 1 1 (tf nx dp x) (by rfl) rfl (news_cells w2 _ _ _ rfl) HT.out (by unfold maxLen;omega) (by omega) (Nat.le_trans hB2.out (by simp)) (by decide) ?_
 intro g' c' w3 hown3 hgrow hor
 have S3:(fun w':World=>w'.cell? ⟨f,4,none⟩=some v4∧w'.cell? ⟨g,a * 9+1,none⟩=some (.int .i64 nx)∧w'.cell? ⟨g,a * 9+4,none⟩=some (.int .i64 dp)∧w'.rangeAt t 2 (nf x)) w3:=⟨grown_cell' hgrow hf4 (cell_ad e4 _),grown_cell' hgrow hg4 (cell_ad j1 _),grown_cell' hgrow hg4 (cell_ad j4 _),rangeAt_grown (range_ad r2 _) hgrow ht4⟩
 refine hK.out _ _ (.inr S3) ?_
 clear hK K
 refine wpAnyT_one (i:=20) (by kernel_rfl) rfl (fun K hK=>?_)
 go_simp
 refine hK.out _ _ (.inr S3) ?_
 clear hK K
 refine wpAnyT_one (i:=21) (by kernel_rfl) rfl (fun K hK=>?_)
 go_simp
 refine hK.out _ _ (.inr S3) ?_
 clear hK K
 have c4':=S3.1
 have f4':=(grown_free' hgrow (p:=⟨f,4,none⟩) hf4 (World.block_lt_of_cell? _ _ (cell_ad e4 _))).trans (free_ad e4 ef4 _)
 have HG:=hid (And.intro hown3 (And.intro hgrow hor))
 clear hown3 hgrow hor S3 hS e4 ef4 j1 j4 r2
 refine wpAnyT_one (i:=22) (by kernel_rfl) rfl (fun K hK=>?_)
 go_simp
 refine hK.out _ _ (.inl rfl) ?_
 clear hK K
 refine wpAnyT_done (by kernel_rfl) ?_ _
 refine NoPanic.normal ?_
 go_wp2
 go_ret
 obtain ⟨hown3,hgrow,hor⟩:=HG.out
 refine ⟨rfl,step_post ?_ k2 HO2.out hown3 hgrow hor hf4 c4'⟩
 exact C4.out
def nu (x:Nat→Int) (s:Nat) (v:Int):Nat→Int:=fun i=>if i=s then v else x i
structure EndsF (f:Nat) (x:Nat→Int) (pl:Int) (w w':World):Prop where
 found:w'.cell? ⟨f,7,none⟩=some (.bool true)
 best:w'.rangeAt f 8 (nf (nu x 1 pl))
 cell:∀ i,i < 7→w'.cell? ⟨f,i,none⟩=w.cell? ⟨f,i,none⟩
 free:∀ i,w'.frozen? ⟨f,i,none⟩=w.frozen? ⟨f,i,none⟩
 kept:Kp [f] w w'
theorem note_cells {W:World} {b o s:Nat} {x:Nat→Int} {v:Int} (h:W.rangeAt b o (nf x)) (hs:s < 20):(W.setCell ⟨b,o+s,none⟩ (.int .i64 v)).rangeAt b o (nf (nu x s v)):=by
 intro j u hu
 have hj:j < 20:=(List.getElem?_eq_some_iff.1 hu).1
 rw [nf_get _ j hj] at hu
 by_cases e:j=s
 ·subst e
  rw [cell_same _ (h j _ (nf_get x j hj)),←hu]
  simp [nu]
 ·rw [cell_other _ (fun q=>by injection q with _ q2 _;omega),h j _ (nf_get x j hj),←hu]
  simp [nu,e]
theorem found_any {w:World} {f p t g n c a pl:Nat} {x:Nat→Int} {b7:Bool}
  (c0:w.cell? ⟨f,0,none⟩=some (.pointer (some ⟨p,0,none⟩))) (c2:w.cell? ⟨f,2,none⟩=some (.int .i64 pl)) (c7:w.cell? ⟨f,7,none⟩=some (.bool b7))
  (hth:w.there f 8 20) (hfr:∀ i,w.frozen? ⟨f,i,none⟩=false)
  (p0:w.cell? ⟨p,0,none⟩=some (.slice (some ⟨g,0,none⟩) n c)) (t0:w.cell? ⟨t,0,none⟩=some (.int .i64 a)) (hr:w.rangeAt t 2 (nf x)) (ha:a < n)
  (i0:w.cell? ⟨g,a * 9,none⟩=some (.int .i64 6)) :
  Calls Tryz.prog 244 #[.pointer (some ⟨f,0,none⟩),.pointer (some ⟨t,0,none⟩)] w fun e w'=>e=.returned (.bool false)∧EndsF f x pl w w':=by
 have HR:=hid hr
 have HT:=hid hth
 have f7:=hfr 7
 have HF:=hid hfr
 clear hr hth hfr
 go_enter Tryz.func244,Tryz.ntmps244
 go_wp2
 go_quiet (fail)
 go_wp2_with (first | (refine wpList_load_mid rfl 237 (.tmp 153) rfl t 2 rfl (nf x) _ HR.out Tryz.underlying237 rfl Tryz.szNotes ?_) | (refine wpList_store_mid rfl 237 (.tmp 158) (.tmp 154) rfl f 8 (nf x).toArray rfl rfl (there_seven HT.out _ _) Tryz.szNotes (nf_all x) ?_))
 obtain ⟨W,hW⟩:∃ W:World,W=((w.drewN nq).setCell ⟨f,7,none⟩ (.bool true)).setCells f 8 (nf x):=⟨_,rfl⟩
 rw [←hW]
 have hth0:=there_seven HT.out (.bool true) nq
 have hr:W.rangeAt f 8 (nf x):=by rw [hW];exact World.rangeAt_setCells_same _ f 8 (nf x) hth0
 have b0:W.cell? ⟨f,8,none⟩=some (.int .i64 (x 0)):=hr 0 _ rfl
 have b1:W.cell? ⟨f,9,none⟩=some (.int .i64 (x 1)):=hr 1 _ rfl
 have hcell:∀ i,i < 7→W.cell? ⟨f,i,none⟩=w.cell? ⟨f,i,none⟩:=fun i hi=>by
  rw [hW,World.cell?_setCells_out f _ 8 _ _ (fun _ _=>.inl (by show i < 8;omega)),cell_other _ (fun e=>by injection e with _ e2 _;omega)];rfl
 have h7:W.cell? ⟨f,7,none⟩=some (.bool true):=by
  rw [hW,World.cell?_setCells_out f _ 8 _ _ (fun _ _=>.inl (by show 7 < 8;omega))];exact cell_same (w:=w.drewN nq) _ c7
 have hfz:∀ i,W.frozen? ⟨f,i,none⟩=w.frozen? ⟨f,i,none⟩:=fun i=>by rw [hW,World.frozen?_setCells];simp
 have kW:Kp [f] w W:=by rw [hW];exact (Kp.drewN _ _ _).trans ((Kp.setCell _ _ (by simp)).trans (Kp.setCells (by simp) _ _ _))
 have e2:=(hcell 2 (by omega)).trans c2
 have g9:=(hfz 9).trans (HF.out 9)
 have H1:=hid hcell
 have H2:=hid hfz
 have H3:=hid h7
 have H4:=hid b0
 have H5:=hid hr
 clear hW hr hcell hfz h7 b0 c0 c2 c7 p0 t0 i0 f7 hth0
 go_region
 go_wp2
 go_ret
 refine ⟨rfl,?_,?_,fun i hi=>?_,fun i=>?_,kW.trans ((Kp.setCell _ _ (by simp)).trans (Kp.drew _ _))⟩
 ·exact (cell_other (w:=W) (a:=⟨f,9,none⟩) (c:=⟨f,7,none⟩) _ (fun e=>by injection e with _ e2 _;omega)).trans H3.out
 ·exact note_cells (s:=1) H5.out (by omega)
 ·exact (cell_other (w:=W) (a:=⟨f,9,none⟩) (c:=⟨f,i,none⟩) _ (fun e=>by injection e with _ e2 _;omega)).trans (H1.out i hi)
 ·have h1:((W.setCell ⟨f,9,none⟩ (.int .i64 pl)).drew).frozen? ⟨f,i,none⟩=W.frozen? ⟨f,i,none⟩:=by simp
  exact h1.trans (H2.out i)
