import Derived.Test.YtnfglkdkmcocnaaGreatDoorR46
set_option maxRecDepth 100000
set_option maxHeartbeats 16000000
set_option linter.all false
namespace Go.Proofs.YtnfglkdkmcocnaaGreatDoor
open Go.RowKit
theorem Tryz.infoBoolS:(Tryz.prog.info? 4).map (fun i=>(i.zero,i.size,i.bytes))=some (some (.bool false),1,1):=by kernel_rfl
def flC (T:Nat):Array Value:=madeCells #[.bool false] T
theorem flC_eq (T:Nat):(flC T).toList=snC T noBytes:=by
 unfold flC snC
 rw [toList_madeCells_one]
 apply List.ext_getElem?
 intro i
 rw [List.getElem?_map]
 by_cases h:i < T
 ·rw [List.getElem?_range h,List.getElem?_replicate,if_pos h];rfl
 ·rw [List.getElem?_replicate,if_neg h,List.getElem?_eq_none (by simpa using h)];rfl
theorem make_seen (T:Nat) (h:T≤1000000000) (w:World):(Instr.makeSlice 160 (.int .i64 (T:Int)) (.int .i64 (T:Int))).run Tryz.prog w=.ok (.slice (some ⟨w.heap.size,0,none⟩) T T) (w.alloc (.cells (flC T) 4)):=by
 obtain ⟨i,hi,hz0,hz1,hz2⟩:=info_parts Tryz.infoBoolS
 have:=run_make (P:=Tryz.prog) w 160 4 i (.bool false) Tryz.underlying160 hi hz0 .i64 .i64 T T (by omega) (by omega) (by rw [hz2];omega) (by omega)
 rw [hz1] at this
 simpa [flC,Value.cells] using this
def mkP (i:Nat):List Value:=List.replicate i (.int .i64 (-1))++List.replicate (20 - i) (.int .i64 0)
theorem mkP_len {i:Nat} (h:i≤20):(mkP i).length=20:=by simp [mkP];omega
theorem mkP_at {i:Nat} (h:i < 20):(mkP i)[i]? = some (.int .i64 0):=by
 unfold mkP
 rw [List.getElem?_append_right (by simp),List.length_replicate,Nat.sub_self,List.getElem?_replicate,if_pos (by omega)]
theorem mkP_set {i:Nat} (h:i < 20):(mkP i).set i (.int .i64 (-1))=mkP (i+1):=by
 unfold mkP
 rw [List.set_append_right _ _ (by simp),List.length_replicate,Nat.sub_self,show 20 - i=(20 - (i+1))+1 by omega,List.replicate_succ,List.set_cons_zero,List.replicate_succ',List.append_assoc];rfl
theorem mkP_end (st:Int):mkP 20=mkC (nz st):=by
 unfold mkP mkC
 apply List.ext_getElem?
 intro i
 rw [Nat.sub_self,List.replicate_zero,List.append_nil,List.getElem?_map]
 by_cases h:i < 20
 ·rw [List.getElem?_range h,List.getElem?_replicate,if_pos h]
  by_cases h2:i < 2
  ·simp [h2]
  ·have:nz st i = -1:=by unfold nz;rw [if_neg (by omega)]
   simp [this]
 ·rw [List.getElem?_replicate,if_neg h,List.getElem?_eq_none (by simpa using h)];rfl
def zrC:Array Value:=(mkP 0).toArray
theorem make_marks (w:World):(Instr.makeSlice 60 (.int .i64 20) (.int .i64 20)).run Tryz.prog w=.ok (.slice (some ⟨w.heap.size,0,none⟩) 20 20) (w.alloc (.cells zrC 3)):=by
 obtain ⟨i,hi,hz0,hz1,hz2⟩:=info_parts Tryz.infoIntR
 have:=run_make (P:=Tryz.prog) w 60 3 i (.int .i64 0) Tryz.underlying60 hi hz0 .i64 .i64 20 20 (by decide) (by decide) (by rw [hz2];decide) (by decide)
 rw [hz1] at this
 have e:madeCells (Value.cells (.int .i64 0)) ((20:Int).toNat * 1)=zrC:=by
  apply Array.toList_inj.1
  rw [show Value.cells (.int .i64 0)=#[.int .i64 0] from rfl,toList_madeCells_one];rfl
 rw [e] at this
 exact this
theorem SvI.dps {s:Sv} {i:In} (h:SvI s i):i.dp≤s.deep∧s.deep≤i.dp+1:=by
 unfold SvI at h
 split at h
 ·obtain ⟨_,_,_,e⟩:=h;omega
 ·obtain ⟨_,_,e⟩:=h;omega
 ·obtain ⟨_,_,e⟩:=h;omega
 ·obtain ⟨_,_,_,e⟩:=h;omega
 ·obtain ⟨_,_,_,e⟩:=h;omega
 ·obtain ⟨_,_,e⟩:=h;omega
 ·obtain ⟨_,_,_,e⟩:=h;omega
 ·obtain ⟨_,e⟩:=h;omega
section
variable {s:Sv} {i:In}
theorem SvI.k0 (h:SvI s i) (e:i.kind=0):s.kind=1∧(∀ c,c < 256→s.set c=i.m c)∧s.x=i.nx∧s.deep=i.dp:=by unfold SvI at h;rw [e] at h;exact h
theorem SvI.k1 (h:SvI s i) (e:i.kind=1):s.kind=2∧s.x=i.nx∧s.deep=i.dp:=by unfold SvI at h;rw [e] at h;exact h
theorem SvI.k2 (h:SvI s i) (e:i.kind=2):s.kind=3∧s.x=i.nx∧s.deep=i.dp:=by unfold SvI at h;rw [e] at h;exact h
theorem SvI.k3 (h:SvI s i) (e:i.kind=3):s.kind=12∧s.num=i.sl∧s.x=i.nx∧s.deep=i.dp:=by unfold SvI at h;rw [e] at h;exact h
theorem SvI.k4 (h:SvI s i) (e:i.kind=4):s.kind=11∧s.x=i.nx∧s.y=i.ot∧s.deep=i.dp:=by unfold SvI at h;rw [e] at h;exact h
theorem SvI.k5 (h:SvI s i) (e:i.kind=5):s.kind=14∧s.x=i.nx∧s.deep=i.dp+1:=by unfold SvI at h;rw [e] at h;exact h
theorem SvI.k7 (h:SvI s i) (e:i.kind=7):s.kind=11∧s.x=i.nx∧s.y=i.nx∧s.deep=i.dp:=by unfold SvI at h;rw [e] at h;exact h
theorem SvI.k6 (h:SvI s i) (e:i.kind=6):s.kind=13∧s.deep=i.dp:=by unfold SvI at h;rw [e] at h;exact h
end
def SrO (w:World) (G:Nat) (r:Option Zt) (e:Ending) (w':World):Prop:=match r with
 | none=>e=.returned (.slice none 0 0)∧Kp [] w w'
 | some z=>∃ q c,e=.returned (.slice (some ⟨q,0,none⟩) (2+2 * G) c)∧w'.ownsRow w.heap.size 3 1 (.slice (some ⟨q,0,none⟩) (2+2 * G) c) (2+2 * G) (bsC G (some z))∧Kp [] w w'
def SrP (w:World) (G n:Nat) (cd:Nat→In) (text:ByteArray) (e:Ending) (w':World):Prop:=∃ R r,0 < R∧(∀ a,a < n→(cd a).dp < R)∧SrD cd text R (text.size+1) 0 noBytes r∧SrO w G r e w'
section
variable {w wr w':World} {cd:Nat→In} {text:ByteArray} {n R st:Nat} {sn0:Nat→Bool} {sb mb T G M:Nat}
theorem Smx.begin {sn:Nat→Bool} (kp:Kp [] w wr) (hs:Bl wr sb (snC T sn)) (hm:Bl wr mb (mkP 20)) (slo:w.heap.size≤sb) (mlo:w.heap.size≤mb) (ne:sb≠mb) :
  Smx w (wr.alloc (.cells (jbC (.go 0 0 st)).toArray 188)) sb mb T (.slice (some ⟨wr.heap.size,0,none⟩) 1 1) (.slice none 0 0) [] ⟨[.go 0 0 st],nz st,sn,none⟩:=by
 have ka:=Kp.alloc [] wr (.cells (jbC (.go 0 0 st)).toArray 188)
 have l1:=hs.lt
 have l2:=hm.lt
 refine ⟨kp.trans ka,hs.keep ka (by simp),?_,?_,World.ownsRow_nil _ _ _ _,slo,mlo,ne,fun g hg=>?_,fun g hg=>by cases hg⟩
 ·rw [mkP_end st] at hm;exact hm.keep ka (by simp)
 ·exact World.ownsRow_lit wr _ 1 kp.size (by unfold maxLen;omega) (by rfl)
 ·have e:wr.heap.size=g:=Option.some.inj hg
  exact ⟨by omega,by omega,fun q=>by cases q⟩
def OutR (w:World) (cd:Nat→In) (text:ByteArray) (n R st:Nat) (sn0:Nat→Bool) (sb mb T G:Nat) (e b j:Value) (wr:World):Prop:=∃ s:Ds,e=.int .i64 (endB s.bt)∧Smx w wr sb mb T j b (bsC G s.bt) s∧Mi cd text n R st sn0 none s∧2 * uns s.sn 0 T+s.jobs.length≤2 * T+1
def InR (w:World) (cd:Nat→In) (text:ByteArray) (n R st:Nat) (sn0:Nat→Bool) (sb mb T G M:Nat) (e b j a t p o:Value) (wr:World):Prop:=∃ (s:Ds) (on:Bool),e=.int .i64 (endB s.bt)∧o=.bool on∧Smx w wr sb mb T j b (bsC G s.bt) s∧2 * uns s.sn 0 T+s.jobs.length+1≤M ∧
 ((on=true∧∃ pc tk pl:Nat,a=.int .i64 pc∧t=.int .i64 tk∧p=.int .i64 pl∧Mi cd text n R st sn0 (some (pc,tk,pl)) s)∨(on=false∧Mi cd text n R st sn0 none s))
theorem InR.on {s:Ds} {e b j a t p:Value} {pc tk pl:Nat} (he:e=.int .i64 (endB s.bt)) (ea:a=.int .i64 pc) (et:t=.int .i64 tk) (ep:p=.int .i64 pl) (h:Smx w wr sb mb T j b (bsC G s.bt) s) (hb:2 * uns s.sn 0 T+s.jobs.length+1≤M) (hm:Mi cd text n R st sn0 (some (pc,tk,pl)) s):InR w cd text n R st sn0 sb mb T G M e b j a t p (.bool true) wr:=
 ⟨s,true,he,rfl,h,hb,.inl ⟨rfl,pc,tk,pl,ea,et,ep,hm⟩⟩
theorem InR.off {s:Ds} {e b j a t p:Value} (he:e=.int .i64 (endB s.bt)) (h:Smx w wr sb mb T j b (bsC G s.bt) s) (hb:2 * uns s.sn 0 T+s.jobs.length+1≤M) (hm:Mi cd text n R st sn0 none s):InR w cd text n R st sn0 sb mb T G M e b j a t p (.bool false) wr:=
 ⟨s,false,he,rfl,h,hb,.inr ⟨rfl,hm⟩⟩
theorem OutR.back {s:Ds} {e b j:Value} (he:e=.int .i64 (endB s.bt)) (h:Smx w wr sb mb T j b (bsC G s.bt) s) (hb:2 * uns s.sn 0 T+s.jobs.length+1≤M) (hM:M≤2 * T+1) (hm:Mi cd text n R st sn0 none s):OutR w cd text n R st sn0 sb mb T G e b j wr∧2 * uns (snW wr sb) 0 T+lenV j < M:=by
 obtain ⟨a,c,hj⟩:=h.form
 refine ⟨⟨s,he,h,hm,by omega⟩,?_⟩
 rw [h.uns,hj]
 show _+s.jobs.length < M
 omega
end
