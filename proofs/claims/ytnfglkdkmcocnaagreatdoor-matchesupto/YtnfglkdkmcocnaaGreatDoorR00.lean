import Derived.WalkSpells
import Derived.Test.YtnfglkdkmcocnaaGreatDoorRows
import Derived.WalkLawsBesides
import Derived.BigQuiet
import Derived.Lib.Bytealg
import Derived.Deep.RegionLaw
import Derived.Lib.SmallJoins
set_option maxRecDepth 100000
set_option maxHeartbeats 16000000
set_option linter.all false
namespace Go.Proofs.YtnfglkdkmcocnaaGreatDoor
open Go.RowKit
theorem hid {p:Prop} (h:p):Hid p:=h
def wb (m:Nat→Bool) (base:Nat):Nat→Nat
 | 0=>0
 | n+1=>(if m (base+n) then 2 ^ n else 0)+wb m base n
theorem wb_lt (m:Nat→Bool) (base n:Nat):wb m base n < 2 ^ n:=by
 induction n with
 | zero=>simp [wb]
 | succ n ih=>simp only [wb,Nat.pow_succ];split <;> omega
theorem wb_bit (m:Nat→Bool) (base n j:Nat):(wb m base n).testBit j=(decide (j < n) && m (base+j)):=by
 induction n with
 | zero=>simp [wb]
 | succ n ih=>
  have hl:=wb_lt m base n
  simp only [wb]
  by_cases h:m (base+n)=true
  ·simp only [h,if_true]
   rcases Nat.lt_trichotomy j n with hj | hj | hj
   ·rw [Nat.testBit_two_pow_add_gt hj,ih];simp [hj,Nat.lt_succ_of_lt hj]
   ·subst hj;rw [Nat.testBit_two_pow_add_eq,ih];simp [h]
   ·rw [Nat.testBit_lt_two_pow]
    ·rw [decide_eq_false (by omega)];rfl
    ·calc 2 ^ n+wb m base n < 2 ^ n+2 ^ n:=by omega
      _=2 ^ (n+1):=by rw [Nat.pow_succ];omega
      _≤2 ^ j:=Nat.pow_le_pow_right (by decide) hj
  ·have h':m (base+n)=false:=by simpa using h
   rw [h',show (if false=true then 2 ^ n else 0)+wb m base n=wb m base n by simp,ih]
   rcases Nat.lt_trichotomy j n with hj | hj | hj
   ·simp [hj,Nat.lt_succ_of_lt hj]
   ·subst hj;simp [h']
   ·rw [decide_eq_false (by omega),decide_eq_false (by omega)]
def wd (m:Nat→Bool) (i:Nat):Nat:=wb m (64 * i) 64
theorem p64:(2:Nat) ^ 64=18446744073709551616:=by simp
theorem wd_lt (m:Nat→Bool) (i:Nat):wd m i < 2 ^ 64:=wb_lt _ _ _
theorem wd_lt' (m:Nat→Bool) (i:Nat):wd m i < 18446744073709551616:=Nat.lt_of_lt_of_eq (wd_lt m i) p64
theorem wd_bit (m:Nat→Bool) (i j:Nat):(wd m i).testBit j=(decide (j < 64) && m (64 * i+j)):=wb_bit _ _ _ _
theorem wd_ext {m:Nat→Bool} {i x:Nat} (hx:x < 2 ^ 64) (h:∀ j,j < 64→x.testBit j=m (64 * i+j)):x=wd m i:=by
 apply Nat.eq_of_testBit_eq
 intro j
 rw [wd_bit]
 by_cases hj:j < 64
 ·simp [hj,h j hj]
 ·simp only [hj,decide_false,Bool.false_and]
  exact Nat.testBit_lt_two_pow (Nat.lt_of_lt_of_le hx (Nat.pow_le_pow_right (by decide) (by omega)))
theorem wd_congr {m m':Nat→Bool} {i:Nat} (h:∀ j,j < 64→m (64 * i+j)=m' (64 * i+j)):wd m i=wd m' i:=
 wd_ext (wd_lt _ _) fun j hj=>by rw [wd_bit];simp [hj,h j hj]
def more (m:Nat→Bool) (k:Nat):Nat→Bool:=fun x=>m x || x == k
def span (m:Nat→Bool) (x y:Nat):Nat→Bool:=fun z=>m z || (decide (x≤z) && decide (z < y))
theorem two_pow_lt (k:Nat):2 ^ (k % 64) < 2 ^ 64:=Nat.pow_lt_pow_right (by decide) (Nat.mod_lt _ (by decide))
theorem two_pow_lt' (k:Nat):2 ^ (k % 64) < 18446744073709551616:=Nat.lt_of_lt_of_eq (two_pow_lt k) p64
theorem wrap_pow (k:Nat):IntKind.u64.wrap (2 ^ (k % 64))=((2 ^ (k % 64):Nat):Int):=by
 have h:=two_pow_lt' k
 rw [IntKind.wrap_u64,show ((2:Int) ^ (k % 64))=((2 ^ (k % 64):Nat):Int) by norm_cast]
 generalize 2 ^ (k % 64)=z at h
 omega
theorem more_same (m:Nat→Bool) (k:Nat):bits .or .u64 (wd m (k / 64):Int) (IntKind.u64.wrap (2 ^ (k % 64)))=(wd (more m k) (k / 64):Int):=by
 have h1:=wd_lt m (k / 64)
 have h2:=two_pow_lt k
 rw [wrap_pow,u64_or_nat _ _ (wd_lt' _ _) (two_pow_lt' k)]
 refine congrArg (fun n:Nat=>(n:Int)) (wd_ext (Nat.or_lt_two_pow h1 h2) fun j hj=>?_)
 have e:decide (k % 64=j)=(64 * (k / 64)+j == k):=by
  rw [Bool.eq_iff_iff];simp only [decide_eq_true_eq,beq_iff_eq]
  have:=Nat.div_add_mod k 64
  omega
 rw [Nat.testBit_or,wd_bit,Nat.testBit_two_pow,e,decide_eq_true hj,Bool.true_and]
 rfl
theorem more_other (m:Nat→Bool) (k i:Nat) (h:i≠k / 64):wd (more m k) i=wd m i:=
 wd_congr fun j hj=>by
  have:(64 * i+j == k)=false:=by rw [beq_eq_false_iff_ne];omega
  simp [more,this]
theorem has_bit (m:Nat→Bool) (x:Nat):(bits .and .u64 ((wd m (x / 64):Int) / 2 ^ (x % 64)) 1 == 1)=m x:=by
 have e:((wd m (x / 64):Int) / 2 ^ (x % 64))=((wd m (x / 64) / 2 ^ (x % 64):Nat):Int):=by norm_cast
 have h2:wd m (x / 64) / 2 ^ (x % 64) < 18446744073709551616:=Nat.lt_of_le_of_lt (Nat.div_le_self _ _) (wd_lt' _ _)
 rw [e,show (1:Int)=((1:Nat):Int) by rfl,u64_and_nat _ _ h2 (by decide)]
 have hb:=wd_bit m (x / 64) (x % 64)
 rw [Nat.testBit_eq_decide_div_mod_eq] at hb
 have hx:x % 64 < 64:=Nat.mod_lt _ (by decide)
 rw [Nat.div_add_mod] at hb
 simp only [hx,decide_true,Bool.true_and] at hb
 rw [Nat.and_one_is_mod,←hb,Bool.eq_iff_iff,beq_iff_eq,decide_eq_true_eq]
 omega
theorem span_none (m:Nat→Bool) (x:Nat):span m x x=m:=by
 funext z;simp only [span]
 have:(decide (x≤z) && decide (z < x))=false:=by rw [Bool.eq_false_iff];simp
 rw [this];exact Bool.or_false _
theorem span_more (m:Nat→Bool) (x y:Nat) (h:x≤y):more (span m x y) y=span m x (y+1):=by
 funext z;simp only [span,more]
 rw [Bool.eq_iff_iff];simp only [Bool.or_eq_true,Bool.and_eq_true,decide_eq_true_eq,beq_iff_eq]
 cases m z <;> simp
 omega
theorem not_wd (m:Nat→Bool) (i:Nat):bits .xor .u64 IntKind.u64.max (wd m i:Int)=(wd (fun x=>!m x) i:Int):=by
 have h1:=wd_lt m i
 have h2:(18446744073709551615:Nat) < 18446744073709551616:=by omega
 rw [show IntKind.u64.max=((18446744073709551615:Nat):Int) by rfl,u64_xor_nat _ _ h2 (wd_lt' _ _)]
 have e:(18446744073709551615:Nat)=2 ^ 64 - 1:=by simp
 refine congrArg (fun n:Nat=>(n:Int)) (wd_ext ?_ fun j hj=>?_)
 ·rw [e];exact Nat.xor_lt_two_pow (by simp) h1
 ·rw [e,Nat.testBit_xor,Nat.testBit_two_pow_sub_one,wd_bit,decide_eq_true hj];simp
def addSp (m:Nat→Bool):List UInt8→Nat→Bool
 | a::b::r=>addSp (span m a.toNat (b.toNat+1)) r
 | _=>m
theorem addSp_step (m:Nat→Bool) (s:ByteArray) (k k1:Nat) (hk:k < s.size) (h:k1 < s.size) (e:k1=k+1) :
  addSp m (s.data.toList.drop k)=addSp (span m (s[k]'hk).toNat ((s[k1]).toNat+1)) (s.data.toList.drop (k+2)):=by
 subst e
 have e1:s.data.toList.drop k=s[k]'(by omega)::s.data.toList.drop (k+1):=by
  rw [List.drop_eq_getElem_cons (by simp;omega)];rfl
 have e2:s.data.toList.drop (k+1)=s[k+1]::s.data.toList.drop (k+2):=by
  rw [List.drop_eq_getElem_cons (by simp;omega)];rfl
 rw [e1,e2];rfl
theorem addSp_end (m:Nat→Bool) (s:ByteArray) (k:Nat) (h:s.size≤k+1):addSp m (s.data.toList.drop k)=m:=by
 have hl:(s.data.toList.drop k).length≤1:=by rw [List.length_drop];simp;omega
 match s.data.toList.drop k,hl with
 | [],_=>rfl
 | [_],_=>rfl
theorem wrap_i64_nat (k:Nat) (h:k < 9223372036854775808):IntKind.i64.wrap (k:Int)=(k:Int):=by rw [IntKind.wrap_i64];omega
theorem wrap_i64_succ (k k1:Nat) (e:k1=k+1) (h:k < 4611686018427387904):IntKind.i64.wrap ((k:Int)+1)=(k1:Int):=by rw [IntKind.wrap_i64];omega
structure Kp (S:List Nat) (w w':World):Prop where
 os:w'.os=w.os
 tape:w'.tape=w.tape
 output:w'.output=w.output
 size:w.heap.size≤w'.heap.size
 block:∀ k,k < w.heap.size→k∉S→w'.heap[k]? = w.heap[k]?
theorem Kp.refl (S:List Nat) (w:World):Kp S w w:=⟨rfl,rfl,rfl,Nat.le_refl _,fun _ _ _=>rfl⟩
theorem Kp.trans {S:List Nat} {a b c:World} (h:Kp S a b) (k:Kp S b c):Kp S a c:=
 ⟨k.os.trans h.os,k.tape.trans h.tape,k.output.trans h.output,Nat.le_trans h.size k.size,
   fun i hi hn=>(k.block i (Nat.lt_of_lt_of_le hi h.size) hn).trans (h.block i hi hn)⟩
theorem Kp.mono {S T:List Nat} {w w':World} (h:Kp S w w') (hs:∀ x,x∈S→x∈T):Kp T w w':=
 ⟨h.os,h.tape,h.output,h.size,fun i hi hn=>h.block i hi (fun hx=>hn (hs i hx))⟩
theorem Kp.own {S:List Nat} {x:Nat} {a b:World} (h:Kp (x::S) a b) (hx:a.heap.size≤x):Kp S a b:=
 ⟨h.os,h.tape,h.output,h.size,fun i hi hn=>h.block i hi (fun hm=>by
   rcases List.mem_cons.1 hm with e | e
   ·omega
   ·exact hn e)⟩
theorem Kp.drewN (S:List Nat) (w:World) (n:Nat):Kp S w (w.drewN n):=by
 refine ⟨rfl,rfl,rfl,Nat.le_refl _,fun _ _ _=>rfl⟩
theorem Kp.drew (S:List Nat) (w:World):Kp S w w.drew:=⟨rfl,rfl,rfl,Nat.le_refl _,fun _ _ _=>rfl⟩
theorem Kp.alloc (S:List Nat) (w:World) (o:Obj):Kp S w (w.alloc o):=
 ⟨rfl,rfl,rfl,by simp,fun k hk _=>Below.heap_alloc _ _ _ hk⟩
theorem Kp.setCell {S:List Nat} (w:World) {p:Addr} (u:Value) (hp:p.block∈S):Kp S w (w.setCell p u):=
 ⟨rfl,rfl,rfl,by simp [World.setCell],fun k _ hn=>Below.heap_setCell _ _ _ _ (fun e=>hn (e ▸ hp))⟩
theorem Kp.cell {S:List Nat} {w w':World} (h:Kp S w w') {p:Addr} (hp:p.block < w.heap.size) (hn:p.block∉S):w'.cell? p=w.cell? p:=
 World.cell?_of_block (w:=w) (h.block p.block hp hn)
theorem Kp.frozen {S:List Nat} {w w':World} (h:Kp S w w') {p:Addr} (hp:p.block < w.heap.size) (hn:p.block∉S):w'.frozen? p=w.frozen? p:=
 World.frozen?_of_block (w:=w) (h.block p.block hp hn)
theorem Kp.below {w w':World} (h:Kp [] w w'):Below w.heap.size w w':=
 ⟨h.os,h.tape,h.output,h.size,fun k hk=>h.block k hk (by simp)⟩
structure St (w:World) (b:Nat) (m:Nat→Bool):Prop where
 lt:b < w.heap.size
 cell:∀ i,i < 4→w.cell? ⟨b,i,none⟩=some (.int .u64 (wd m i))
 free:∀ i,w.frozen? ⟨b,i,none⟩=false
theorem St.keep {S:List Nat} {w w':World} {b:Nat} {m:Nat→Bool} (h:St w b m) (k:Kp S w w') (hn:b∉S):St w' b m:=
 ⟨Nat.lt_of_lt_of_le h.lt k.size,fun i hi=>by rw [k.cell h.lt hn];exact h.cell i hi,fun i=>by rw [k.frozen h.lt hn];exact h.free i⟩
structure Rd (w:World) (b:Nat) (src:ByteArray) (k g:Nat):Prop where
 lt:b < w.heap.size
 le:k≤src.size
 small:src.size≤2000
 c0:w.cell? ⟨b,0,none⟩=some (.string src)
 c1:w.cell? ⟨b,1,none⟩=some (.int .i64 k)
 ce:w.cell? ⟨b,2,none⟩=some (.int .i64 2)
 c2:w.cell? ⟨b,3,none⟩=some (.int .i64 g)
 free:∀ i,w.frozen? ⟨b,i,none⟩=false
theorem Rd.keep {S:List Nat} {w w':World} {b:Nat} {src:ByteArray} {k g:Nat} (h:Rd w b src k g) (q:Kp S w w') (hn:b∉S):Rd w' b src k g:=
 ⟨Nat.lt_of_lt_of_le h.lt q.size,h.le,h.small,by rw [q.cell h.lt hn];exact h.c0,by rw [q.cell h.lt hn];exact h.c1,by rw [q.cell h.lt hn];exact h.ce,by rw [q.cell h.lt hn];exact h.c2,fun i=>by rw [q.frozen h.lt hn];exact h.free i⟩
def saw (s:ByteArray) (k:Nat) (x:Int):Bool:=if h:k < s.size then ((s[k]).toNat:Int) == x else false
theorem saw_lt {s:ByteArray} {k:Nat} {x:Int} (h:saw s k x=true):k < s.size:=by
 unfold saw at h;split at h
 ·assumption
 ·simp at h
theorem cell_same {w:World} {a:Addr} {u:Value} (v:Value) (h:w.cell? a=some u):(w.setCell a v).cell? a=some v:=World.cell?_setCell_same' w a v (by simp [h])
theorem cell_other {w:World} {a c:Addr} (v:Value) (h:a≠c):(w.setCell a v).cell? c=w.cell? c:=World.cell?_setCell_other _ _ _ _ h
theorem Rd.step {w:World} {b:Nat} {src:ByteArray} {k g:Nat} (h:Rd w b src k g) (hk:k < src.size):Rd (w.setCell ⟨b,1,none⟩ (.int .i64 ((k:Int)+1))) b src (k+1) g:=by
 refine ⟨by simpa [World.setCell] using h.lt,by omega,h.small,?_,?_,?_,?_,fun i=>by simpa using h.free i⟩
 ·rw [cell_other _ (by simp)];exact h.c0
 ·rw [cell_same _ h.c1];simp
 ·rw [cell_other _ (by simp)];exact h.ce
 ·rw [cell_other _ (by simp)];exact h.c2
theorem Rd.drewN {w:World} {b:Nat} {src:ByteArray} {k g:Nat} (h:Rd w b src k g) (n:Nat):Rd (w.drewN n) b src k g:=h.keep (Kp.drewN [] w n) (by simp)
theorem ended_any (b:Nat) (src:ByteArray) (k:Nat) (w:World)
  (c0:w.cell? ⟨b,0,none⟩=some (.string src)) (c1:w.cell? ⟨b,1,none⟩=some (.int .i64 k)) :
  Calls Tryz.prog 163 #[.pointer (some ⟨b,0,none⟩)] w fun e w'=>e=.returned (.bool ((k:Int) == (src.size:Int)))∧∃ n,w'=w.drewN n:=by
 go_enter Tryz.func163,Tryz.ntmps163
 go_wp2
 go_quiet (fail)
 go_wp2
 go_ret
 exact ⟨rfl,_,rfl⟩
theorem sees_end (b:Nat) (src:ByteArray) (k:Nat) (x:Int) (w:World)
  (c0:w.cell? ⟨b,0,none⟩=some (.string src)) (c1:w.cell? ⟨b,1,none⟩=some (.int .i64 k)) (hk:k=src.size) :
  Calls Tryz.prog 216 #[.pointer (some ⟨b,0,none⟩),.int .u8 x] w fun e w'=>e=.returned (.bool false)∧∃ n,w'=w.drewN n:=by
 have hb:((k:Int) == (src.size:Int))=true:=by simp [hk]
 have HK:Hid (k=src.size):=hk
 clear hk
 go_enter Tryz.func216,Tryz.ntmps216
 go_wp2
 go_quiet ((go_at_call 163;exact Calls.quiet_of (ended_any b src k _ (by simpa using c0) (by simpa using c1))))
 go_wp2
 go_ret
 exact ⟨rfl,_,rfl⟩
theorem sees_in (b:Nat) (src:ByteArray) (k:Nat) (x:Int) (w:World)
  (c0:w.cell? ⟨b,0,none⟩=some (.string src)) (c1:w.cell? ⟨b,1,none⟩=some (.int .i64 k)) (hk:k < src.size) :
  Calls Tryz.prog 216 #[.pointer (some ⟨b,0,none⟩),.int .u8 x] w fun e w'=>e=.returned (.bool (((src[k]).toNat:Int) == x))∧∃ n,w'=w.drewN n:=by
 have hb:((k:Int) == (src.size:Int))=false:=by simp;omega
 go_enter Tryz.func216,Tryz.ntmps216
 go_wp2
 go_quiet ((go_at_call 163;exact Calls.quiet_of (ended_any b src k _ (by simpa using c0) (by simpa using c1))))
 go_wp2
 go_ret
 exact ⟨rfl,_,rfl⟩
theorem sees_any {b:Nat} {src:ByteArray} {k g:Nat} (x:Int) {w:World} (hr:Rd w b src k g) :
  Calls Tryz.prog 216 #[.pointer (some ⟨b,0,none⟩),.int .u8 x] w fun e w'=>e=.returned (.bool (saw src k x))∧∃ n,w'=w.drewN n:=by
 by_cases hk:k < src.size
 ·have:=sees_in b src k x w hr.c0 hr.c1 hk
  simpa [saw,hk] using this
 ·have:=sees_end b src k x w hr.c0 hr.c1 (by have:=hr.le;omega)
  simpa [saw,hk] using this
theorem take_no {b:Nat} {src:ByteArray} {k g:Nat} (x:Int) {w:World} (hr:Rd w b src k g) (h:saw src k x=false) :
  Calls Tryz.prog 208 #[.pointer (some ⟨b,0,none⟩),.int .u8 x] w fun e w'=>e=.returned (.bool false)∧Rd w' b src k g∧Kp [b] w w':=by
 have H:Hid _:=h
 go_enter Tryz.func208,Tryz.ntmps208
 go_wp2_with (go_at_call 216;refine (sees_any x hr).mono ?_;rintro e w1 ⟨rfl,n,rfl⟩)
 go_ret
 exact ⟨rfl,hr.drewN n,Kp.drewN _ _ _⟩
theorem take_yes {b:Nat} {src:ByteArray} {k g:Nat} (x:Int) {w:World} (hr:Rd w b src k g) (h:saw src k x=true) :
  Calls Tryz.prog 208 #[.pointer (some ⟨b,0,none⟩),.int .u8 x] w fun e w'=>e=.returned (.bool true)∧Rd w' b src (k+1) g∧Kp [b] w w':=by
 have c1:=hr.c1
 have f1:=hr.free 1
 have hk:=saw_lt h
 have hsm:=hr.small
 go_enter Tryz.func208,Tryz.ntmps208
 go_wp2_with (go_at_call 216;refine (sees_any x hr).mono ?_;rintro e w1 ⟨rfl,n,rfl⟩)
 go_ret
 exact ⟨rfl,(hr.drewN n).step hk,(Kp.drewN _ _ _).trans (Kp.setCell _ _ (by simp))⟩
theorem take_any {b:Nat} {src:ByteArray} {k g:Nat} (x:Int) {w:World} (hr:Rd w b src k g) :
  Calls Tryz.prog 208 #[.pointer (some ⟨b,0,none⟩),.int .u8 x] w fun e w'=>e=.returned (.bool (saw src k x))∧Rd w' b src (if saw src k x then k+1 else k) g∧Kp [b] w w':=by
 cases h:saw src k x
 ·simpa using take_no x hr h
 ·simpa using take_yes x hr h
theorem expect_yes {b:Nat} {src:ByteArray} {k g:Nat} (x:Int) {w:World} (hr:Rd w b src k g) (h:saw src k x=true) :
  Calls Tryz.prog 222 #[.pointer (some ⟨b,0,none⟩),.int .u8 x] w fun e w'=>e=.returned (.tuple #[])∧Rd w' b src (k+1) g∧Kp [b] w w':=by
 go_enter Tryz.func222,Tryz.ntmps222
 go_wp2_with (go_at_call 208;refine (take_yes x hr h).mono ?_;rintro e w1 ⟨rfl,h1,h2⟩)
 go_end0
 exact ⟨rfl,h1,h2⟩
theorem ended_q {b:Nat} {src:ByteArray} {k g:Nat} {w:World} (hr:Rd w b src k g) (n:Nat) :
  Calls Tryz.prog 163 #[.pointer (some ⟨b,0,none⟩)] (w.drewN n) fun e w''=>e=.returned (.bool ((k:Int) == (src.size:Int)))∧∃ m,w''=w.drewN m:=
 Calls.quiet_of (ended_any b src k _ (hr.drewN n).c0 (hr.drewN n).c1)
theorem sees_q {b:Nat} {src:ByteArray} {k g:Nat} (x:Int) {w:World} (hr:Rd w b src k g) {v:Bool} (h:saw src k x=v) (n:Nat) :
  Calls Tryz.prog 216 #[.pointer (some ⟨b,0,none⟩),.int .u8 x] (w.drewN n) fun e w''=>e=.returned (.bool v)∧∃ m,w''=w.drewN m:=by
 subst h
 exact Calls.quiet_of (sees_any x (hr.drewN n))
theorem ended_r {b:Nat} {src:ByteArray} {k g:Nat} {w:World} (hr:Rd w b src k g) {v:Bool} (h:((k:Int) == (src.size:Int))=v) :
  Calls Tryz.prog 163 #[.pointer (some ⟨b,0,none⟩)] w fun e w'=>e=.returned (.bool v)∧Rd w' b src k g∧Kp [b] w w':=by
 subst h
 exact (ended_any b src k w hr.c0 hr.c1).mono fun e w' ⟨he,n,hw⟩=>⟨he,by rw [hw];exact hr.drewN n,by rw [hw];exact Kp.drewN _ _ _⟩
theorem sees_r {b:Nat} {src:ByteArray} {k g:Nat} (x:Int) {w:World} (hr:Rd w b src k g) {v:Bool} (h:saw src k x=v) :
  Calls Tryz.prog 216 #[.pointer (some ⟨b,0,none⟩),.int .u8 x] w fun e w'=>e=.returned (.bool v)∧Rd w' b src k g∧Kp [b] w w':=by
 subst h
 exact (sees_any x hr).mono fun e w' ⟨he,n,hw⟩=>⟨he,by rw [hw];exact hr.drewN n,by rw [hw];exact Kp.drewN _ _ _⟩
abbrev setV (m:Nat→Bool):Value:=.agg #[.int .u64 (wd m 0),.int .u64 (wd m 1),.int .u64 (wd m 2),.int .u64 (wd m 3)]
theorem words_at (m:Nat→Bool) (i:Nat) (h:i < 4):[Value.int .u64 (wd m 0),.int .u64 (wd m 1),.int .u64 (wd m 2),.int .u64 (wd m 3)][i]? = some (.int .u64 (wd m i)):=by
 match i,h with
 | 0,_=>rfl
 | 1,_=>rfl
 | 2,_=>rfl
 | 3,_=>rfl
theorem has_any (m:Nat→Bool) (x:Nat) (hx:x < 256) (w:World) :
  Calls Tryz.prog 266 #[setV m,.int .u8 x] w fun e w'=>e=.returned (.bool (m x))∧Kp [] w w':=by
 have hv:=words_at m (x / 64) (by omega)
 have hb:=has_bit m x
 unfold setV
 generalize (wd m 0:Int)=a0 at *
 generalize (wd m 1:Int)=a1 at *
 generalize (wd m 2:Int)=a2 at *
 generalize (wd m 3:Int)=a3 at *
 generalize (wd m (x / 64):Int)=a4 at *
 have HB:Hid _:=hb
 clear hb
 go_enter Tryz.func266,Tryz.ntmps266
 go_wp2
 go_ret
 exact ⟨by rw [←HB.out];rfl,Kp.alloc _ _ _⟩
theorem add_any (b:Nat) (m:Nat→Bool) (x y:Nat) (hx:x < 256) (hy:y < 256) (hxy:x≤y) (w:World) (hs:St w b m) :
  Calls Tryz.prog 281 #[.pointer (some ⟨b,0,none⟩),.int .u8 x,.int .u8 y] w fun e w'=>e=.returned (.tuple #[])∧St w' b (span m x (y+1))∧Kp [b] w w':=by
 go_enter Tryz.func281,Tryz.ntmps281
 go_wp2
 go_loopw [6] (fun i wr=>∃ k:Nat,x≤k∧k≤y+1∧i=.int .i64 k∧St wr b (span m x k)∧Kp [b] w wr) (fun i _=>y+1 - (intOf i).toNat)
 case atStart=>exact ⟨x,Nat.le_refl _,by omega,rfl,by rw [span_none];exact hs,Kp.refl _ _⟩
 case round=>
  obtain ⟨k,hk1,hk2,rfl,hst,hkp⟩:=hrel
  by_cases hlt:k≤y
  ·have hq:k / 64 < 4:=by omega
   have hc1:=hst.cell (k / 64) hq
   have hf1:=hst.free (k / 64)
   have hst2:Hid (∀ j,j < 4→wr.cell? ⟨b,j,none⟩=some (.int .u64 (wd (span m x k) j))):=hst.cell
   have hfr:Hid (∀ j,wr.frozen? ⟨b,j,none⟩=false):=hst.free
   have hbl:=hst.lt
   have hso:=more_same (span m x k) k
   have HS:Hid _:=hso
   have hmo:=span_more m x k hk1
   have HM:Hid _:=hmo
   clear hso hmo hst hs
   generalize hm':span m x k=m' at *
   clear hm'
   go_wp2
   go_region
   go_wp2
   go_roundw
   case rel=>
    refine ⟨k+1,by omega,by omega,by go_num,⟨?_,?_,?_⟩,?_⟩
    ·simpa [World.setCell] using hbl
    ·intro j hj
     rw [HS.out,←HM.out]
     by_cases e:j=k / 64
     ·subst e;simp [World.cell?_setCell_same,hc1]
     ·rw [more_other _ _ _ e]
      have:=hst2.out j hj
      simpa [World.cell?_setCell_other,e,Ne.symm e] using this
    ·intro j;simpa using hfr.out j
    ·exact hkp.trans ((Kp.setCell _ _ (by simp)).trans (Kp.drew _ _))
   case measure=>simp [intOf];omega
  ·have e:k=y+1:=by omega
   subst e
   clear hs
   go_wp2
   go_end0
   exact ⟨rfl,hst,hkp⟩
theorem others_any (m:Nat→Bool) (w:World) :
  Calls Tryz.prog 278 #[setV m] w fun e w'=>e=.returned (setV fun x=>!m x)∧Kp [] w w':=by
 have hsg:IntKind.u64.signed=false:=rfl
 unfold setV
 go_enter Tryz.func278,Tryz.ntmps278
 go_wp2
 refine wp_loop_rounds 5 ?_
 rw [rounds_succ]
 go_wp2
 rw [rounds_succ]
 go_wp2
 rw [rounds_succ]
 go_wp2
 rw [rounds_succ]
 go_wp2
 rw [rounds_succ]
 go_wp2
 refine bodyPost_ret (v:=.agg #[.int .u64 (wd (fun x=>!m x) 0),.int .u64 (wd (fun x=>!m x) 1),.int .u64 (wd (fun x=>!m x) 2),.int .u64 (wd (fun x=>!m x) 3)]) (by simp [results,Tryz.results278,go_sem,not_wd]) rfl ⟨rfl,(Kp.alloc _ _ _).trans (Kp.alloc _ _ _)⟩
theorem addSpans_any (b:Nat) (m:Nat→Bool) (s:ByteArray) (w:World) (hs:St w b m) (hlen:s.size≤1000)
  (hord:∀ k,(h:k+1 < s.size)→k % 2=0→(s[k]'(by omega)).toNat≤(s[k+1]'h).toNat) :
  Calls Tryz.prog 288 #[.pointer (some ⟨b,0,none⟩),.string s] w fun e w'=>e=.returned (.tuple #[])∧St w' b (addSp m s.data.toList)∧Kp [b] w w':=by
 go_enter Tryz.func288,Tryz.ntmps288
 go_wp2
 go_loopw [4] (fun i wr=>∃ (k:Nat) (m':Nat→Bool),k≤s.size+1∧k % 2=0∧i=.int .i64 k∧St wr b m'∧Kp [b] w wr∧Hid (addSp m' (s.data.toList.drop k)=addSp m s.data.toList)) (fun i _=>s.size+2 - (intOf i).toNat)
 case atStart=>exact ⟨0,m,by omega,rfl,rfl,hs,Kp.refl _ _,rfl⟩
 case round=>
  obtain ⟨k,m',hk,hk2,rfl,hst,hkp,he⟩:=hrel
  by_cases hlt:k+1 < s.size
  ·obtain ⟨k1,hk1⟩:∃ k1:Nat,k1=k+1:=⟨_,rfl⟩
   have hkI:(k:Int)+1=(k1:Int):=by omega
   have hk1s:k1 < s.size:=by omega
   have hb1':k < s.size:=by omega
   have hstep:=addSp_step m' s k k1 hb1' hk1s hk1
   have HS:Hid _:=hstep
   have ho:s[k].toNat≤s[k1].toNat:=by subst hk1;exact hord k hlt hk2
   have hb1:s[k].toNat < 256:=UInt8.toNat_lt _
   have hb2:(s[k1]).toNat < 256:=UInt8.toNat_lt _
   have hwr:=wrap_i64_nat k1 (by omega)
   clear hstep hord hs hlt hk1
   go_wp2
   go_region_with (go_at_call 281;refine (add_any b m' _ _ hb1 hb2 ho _ (by exact hst.keep (Kp.drew [] _) (by simp))).mono ?_;rintro e w1 ⟨rfl,hst1,hkp1⟩)
   all_goals go_wp2
   all_goals go_roundw
   all_goals first
    | exact ⟨k+2,_,by omega,by omega,by go_num,hst1,hkp.trans ((Kp.drew _ _).trans hkp1),HS.out.symm.trans he⟩
    | (simp [intOf];omega)
  ·have:=addSp_end m' s k (by omega)
   have HE:Hid _:=this
   clear this
   clear hs hord
   go_wp2
   go_end0
   exact ⟨rfl,by rw [←he.out,HE.out];exact hst,hkp⟩
theorem run_index53 (s:ByteArray) (c:Int) (w:World) :
  (callFunc 274 #[.string s,.int .u8 c]).run Tryz.prog w=.ok (.value (.int .i64 (Lib.indexByte s.data.toList c.toNat.toUInt8))) w:=by
 rw [run_callFunc_extern Tryz.func274 (by kernel_rfl) (by kernel_rfl) (by kernel_rfl) (e:=Extern.BytealgIndexByte.indexByte) (by kernel_rfl),Lib.run_indexByteString]
 rfl
theorem index_any (s:ByteArray) (c:Int) (w:World) :
  Calls Tryz.prog 249 #[.string s,.int .u8 c] w fun e w'=>e=.returned (.int .i64 (Lib.indexByte s.data.toList c.toNat.toUInt8))∧w'=w:=by
 have h:=run_index53
 go_enter Tryz.func249,Tryz.ntmps249
 go_wp2
 go_ret
 exact ⟨rfl,rfl⟩
theorem index_q (s:ByteArray) (c:Int) {v:Int} (h:Lib.indexByte s.data.toList c.toNat.toUInt8=v) (w:World) (n:Nat) :
  Calls Tryz.prog 249 #[.string s,.int .u8 c] (w.drewN n) fun e w''=>e=.returned (.int .i64 v)∧∃ m,w''=w.drewN m:=by
 subst h
 exact Calls.quiet_of_same (index_any s c _)
theorem byteOf_plain {b:Nat} {src:ByteArray} {k g:Nat} (barred behind:ByteArray) {w:World} (hr:Rd w b src k g) (hk:k < src.size)
  (h92:saw src k 92=false) (h10:saw src k 10=false) (hbar:Lib.indexByte barred.data.toList src[k] = -1) :
  Calls Tryz.prog 280 #[.pointer (some ⟨b,0,none⟩),.string barred,.string behind] w fun e w'=>e=.returned (.int .u8 (src[k]).toNat)∧Rd w' b src (k+1) g∧Kp [b] w w':=by
 go_enter Tryz.func280,Tryz.ntmps280
 go_wp2_with (go_at_call 208;refine (take_no 92 hr h92).mono ?_;rintro e w1 ⟨rfl,h1,h2⟩)
 have c0:=h1.c0
 have c1:=h1.c1
 have f1:=h1.free 1
 have hsm:=h1.small
 have he:((k:Int) == (src.size:Int))=false:=by simp;omega
 have hix:Lib.indexByte barred.data.toList ((src[k].toNat:Int)).toNat.toUInt8 = -1:=by simpa using hbar
 go_quiet (first | (go_at_call 163;exact ended_q h1 _) | (go_at_call 216;exact sees_q 10 h1 h10 _) | (go_at_call 249;exact index_q _ _ hix _ _))
 go_wp2
 go_quiet (fail)
 go_wp2
 go_ret
 exact ⟨rfl,((h1.drewN _).step hk).drewN _,h2.trans ((Kp.drewN _ _ _).trans ((Kp.setCell _ _ (by simp)).trans (Kp.drewN _ _ _)))⟩
def preB (s p:ByteArray):Bool:=decide (p.size≤s.size) && ((s.extract 0 p.size).toList == p.toList)
def nmN:Nat→ByteArray
 | 0=>⟨#[97,108,112,104,97]⟩
 | 1=>⟨#[100,105,103,105,116]⟩
 | 2=>⟨#[97,108,110,117,109]⟩
 | 3=>⟨#[117,112,112,101,114]⟩
 | 4=>⟨#[108,111,119,101,114]⟩
 | 5=>⟨#[115,112,97,99,101]⟩
 | _=>⟨#[112,117,110,99,116]⟩
def nmS:Nat→ByteArray
 | 0=>⟨#[65,90,97,122]⟩
 | 1=>⟨#[48,57]⟩
 | 2=>⟨#[48,57,65,90,97,122]⟩
 | 3=>⟨#[65,90]⟩
 | 4=>⟨#[97,122]⟩
 | 5=>⟨#[9,13,32,32]⟩
 | _=>⟨#[33,47,58,64,91,96,123,126]⟩
structure Nm (w:World):Prop where
 lt:4 < w.heap.size
 name:∀ i,i < 7→w.cell? ⟨4,i * 2,none⟩=some (.string (nmN i))
 spans:∀ i,i < 7→w.cell? ⟨4,i * 2+1,none⟩=some (.string (nmS i))
theorem Nm.keep {S:List Nat} {w w':World} (h:Nm w) (k:Kp S w w') (hn:4∉S):Nm w':=
 ⟨Nat.lt_of_lt_of_le h.lt k.size,fun i hi=>by rw [k.cell h.lt hn];exact h.name i hi,fun i hi=>by rw [k.cell h.lt hn];exact h.spans i hi⟩
theorem nmN_size (i:Nat):(nmN i).size=5:=by unfold nmN;split <;> rfl
theorem hasPrefix_any (s p:ByteArray) (w:World) (_hs:s.size≤1000) (_hp:p.size≤3000) :
  Calls Tryz.prog 180 #[.string s,.string p] w fun e w'=>e=.returned (.bool (preB s p))∧w'=w:=by
 go_enter Tryz.func180,Tryz.ntmps180
 go_wp2
 ·go_ret
  have h:p.size≤s.size:=by assumption
  exact ⟨by simp [preB,h],rfl⟩
 ·go_ret
  have h:¬ p.size≤s.size:=by assumption
  exact ⟨by simp [preB,h],rfl⟩
def atOf (w:World) (b:Nat):Nat:=(intOf ((w.cell? ⟨b,1,none⟩).getD undef)).toNat
theorem atOf_rd {w:World} {b:Nat} {src:ByteArray} {k g:Nat} (h:Rd w b src k g):atOf w b=k:=by simp [atOf,h.c1,intOf]
theorem nmS_ok (i:Nat):(nmS i).size≤1000:=by unfold nmS;split <;> decide
theorem nmS_big (i:Nat):(nmS i).size≤8:=by unfold nmS;split <;> decide
theorem nmS_six (i:Nat) (h:6≤i):nmS i=nmS 6:=by
 match i,h with
 | i+6,_=>rfl
theorem nmS_tab:∀ i:Fin 7,∀ k:Fin 8,(k:Nat) % 2=0→(((nmS i).data.getD k 0).toNat≤((nmS i).data.getD (k+1) 0).toNat∨(nmS i).size≤k+1):=by decide +kernel
theorem nmS_ord (i:Nat):∀ k,(h:k+1 < (nmS i).size)→k % 2=0→((nmS i)[k]'(by omega)).toNat≤((nmS i)[k+1]'h).toNat:=by
 intro k h hk
 have hb:=nmS_big i
 have e:∀ (l:ByteArray) (j:Nat) (hj:j < l.size),l[j]=l.data.getD j 0:=fun l j hj=>by
  show l.data[j]=_
  rw [Array.getD_eq_getD_getElem?,Array.getElem?_eq_getElem hj];rfl
 rw [e,e]
 by_cases hi:i < 7
 ·rcases nmS_tab ⟨i,hi⟩ ⟨k,by omega⟩ hk with h1 | h1
  ·exact h1
  ·exact absurd h1 (Nat.not_le.2 h)
 ·have h6:=nmS_six i (by omega)
  rw [h6] at h hb ⊢
  rcases nmS_tab ⟨6,by omega⟩ ⟨k,by omega⟩ hk with h1 | h1
  ·exact h1
  ·exact absurd h1 (Nat.not_le.2 h)
abbrev zero4:Obj:=.cells #[.int .u64 0,.int .u64 0,.int .u64 0,.int .u64 0] 230
def noBytes:Nat→Bool:=fun _=>false
theorem wd_none (i:Nat):wd noBytes i=0:=by
 refine (wd_ext (by simp) fun j _=>?_).symm
 simp [noBytes]
theorem St_new (w:World):St (w.alloc zero4) w.heap.size noBytes:=by
 refine ⟨by simp,fun i hi=>?_,fun i=>by simp⟩
 rw [wd_none]
 match i,hi with
 | 0,_=>simp
 | 1,_=>simp
 | 2,_=>simp
 | 3,_=>simp
def ClassOk (b:Nat) (src:ByteArray) (k l g:Nat) (m:Nat→Bool):Prop:=
 ∀ w:World,Rd w b src k g→Nm w →
  Calls Tryz.prog 279 #[.pointer (some ⟨b,0,none⟩)] w fun e w'=>e=.returned (setV m)∧Rd w' b src l g∧Kp [b] w w'
abbrev oneV (m:Nat→Bool):Value:=.iface 353 (setV m)
theorem atom_class {b:Nat} {src:ByteArray} {k l g:Nat} {m:Nat→Bool} {w:World} (hr:Rd w b src k g) (hw:Nm w) (hb0:b≠4)
  (h40:saw src k 40=false) (h46:saw src k 46=false) (h91:saw src k 91=true) (hc:ClassOk b src (k+1) l g m) :
  Calls Tryz.prog 265 #[.pointer (some ⟨b,0,none⟩)] w fun e w'=>e=.returned (oneV m)∧Rd w' b src l g∧Kp [b] w w':=by
 have hb0':4∉[b]:=by simpa using Ne.symm hb0
 have HB:Hid _:=hb0'
 clear hb0'
 go_enter Tryz.func265,Tryz.ntmps265
 go_wp2_with fail
 refine (sees_any 40 hr).mono ?_
 rw [h40]
 rintro e w1 ⟨rfl,n,rfl⟩
 go_wp2_with fail
 refine (take_no 46 (hr.drewN n) h46).mono ?_
 rintro e w2 ⟨rfl,r2,k2⟩
 go_wp2_with fail
 refine (take_yes 91 r2 h91).mono ?_
 rintro e w3 ⟨rfl,r3,k3⟩
 go_wp2_with fail
 refine (hc _ r3 (((hw.keep (Kp.drewN [b] _ n) HB.out).keep k2 HB.out).keep k3 HB.out)).mono ?_
 rintro e w4 ⟨rfl,r4,k4⟩
 go_wp2_with fail
 go_ret
 exact ⟨rfl,r4,(Kp.drewN _ _ n).trans (k2.trans (k3.trans k4))⟩
theorem repeated_no {b:Nat} {src:ByteArray} {k g:Nat} (v:Value) {w:World} (hr:Rd w b src k g)
  (h1:saw src k 42=false) (h2:saw src k 43=false) (h3:saw src k 63=false) (h4:saw src k 123=false) :
  Calls Tryz.prog 264 #[.pointer (some ⟨b,0,none⟩),v] w fun e w'=>e=.returned v∧Rd w' b src k g∧Kp [b] w w':=by
 go_enter Tryz.func264,Tryz.ntmps264
 go_wp2_with fail
 refine (take_no 42 hr h1).mono ?_
 rintro e w1 ⟨rfl,r1,k1⟩
 go_wp2_with fail
 refine (take_no 43 r1 h2).mono ?_
 rintro e w2 ⟨rfl,r2,k2⟩
 go_wp2_with fail
 refine (take_no 63 r2 h3).mono ?_
 rintro e w3 ⟨rfl,r3,k3⟩
 go_wp2_with fail
 refine (take_no 123 r3 h4).mono ?_
 rintro e w4 ⟨rfl,r4,k4⟩
 go_wp2_with fail
 go_ret
 exact ⟨rfl,r4,k1.trans (k2.trans (k3.trans k4))⟩
def PieceOk (b:Nat) (src:ByteArray) (k l g:Nat) (v:Value):Prop:=
 ∀ w:World,Rd w b src k g→Nm w →
  Calls Tryz.prog 242 #[.pointer (some ⟨b,0,none⟩)] w fun e w'=>e=.returned v∧Rd w' b src l g∧Kp [b] w w'
theorem Tryz.infoNode:(Tryz.prog.info? 220).map (fun i=>(i.zero,i.size,i.bytes))=some (some .nilIface,1,16):=by kernel_rfl
theorem one_size (m:Nat→Bool) (w:World) :
  Calls Tryz.prog 318 #[setV m] w fun e w'=>e=.returned (.int .i64 1)∧Kp [] w w':=by
 go_enter Tryz.func318,Tryz.ntmps318
 go_wp2
 go_ret
 exact ⟨rfl,Kp.alloc _ _ _⟩
theorem size_of_one (v : Value) (w : World) : (method 477 353 v "ribbon/pattern.size").run Tryz.prog w = .ok (318, v) w := by kernel_rfl
theorem size_of_row (v : Value) (w : World) : (method 477 320 v "ribbon/pattern.size").run Tryz.prog w = .ok (310, v) w := by kernel_rfl
theorem size_of_branches (v : Value) (w : World) : (method 477 302 v "ribbon/pattern.size").run Tryz.prog w = .ok (308, v) w := by kernel_rfl
theorem emit_of_one (v : Value) (w : World) : (method 477 353 v "ribbon/pattern.emit").run Tryz.prog w = .ok (317, v) w := by kernel_rfl
theorem emit_of_row (v : Value) (w : World) : (method 477 320 v "ribbon/pattern.emit").run Tryz.prog w = .ok (309, v) w := by kernel_rfl
theorem emit_of_branches (v : Value) (w : World) : (method 477 302 v "ribbon/pattern.emit").run Tryz.prog w = .ok (307, v) w := by kernel_rfl
theorem step_append_own {P:Program} {ops:Array Oper} {o:Oper} {a:Act} {w:World} {K:Act→World→Prop} {Q:Exit→Act→World→Prop} {E:Prop}
  (hg:o.guard=none) (s x:Operand) (t:TypeId) (hop:o.op=Op.call { callee:=Callee.builtin Builtin.append,args:=#[s,x],argTypes:=#[t,t] })
  (base:Nat) (e:TypeId) (i:TypeInfo) (z:Value) (size bytes:Nat) (h1:P.underlying t=some (.slice e)) (h2:P.info? e=some i) (h3:i.zero=some z) (h4:i.size=size) (h5:i.bytes=bytes) (h6:z.cells.size=size) (h7:0 < size)
  (v:Value) (n:Nat) (xs:List Value) (hs:a.eval s=v) (hown:w.ownsRow base e size v n xs)
  (ad:Addr) (m c:Nat) (news:List Value) (hx:a.eval x=.slice (some ad) m c) (hn:news.length=m * size) (hc:∀ j u,news[j]? = some u→w.cell? (ad.add j)=some u) (h1c:∀ u∈news,u.oneCell'=true)
  (b1:n+m≤maxLen) (b2:(n+m) * bytes≤140737488355328) (hbase:base≤w.heap.size)
  (hK:∀ v' w',w'.ownsRow base e size v' (n+m) (xs++news)→w.grownBy w' v.ownBlock→K (a.put o.dst v') w') :
  if Region.wanted o (yielded ops a.tmps)=true then Oper.wp P o a w K Q else E:=by
 have hw:Region.wanted o (yielded ops a.tmps)=true:=by simp [Region.wanted,hg]
 rw [if_pos hw]
 obtain ⟨v',w',hrun,r1,r2,_⟩:=run_append_own (P:=P) w base t o.type e i z size bytes h1 h2 h3 h4 h5 h6 h7 v n xs hown ad m c news hn hc h1c b1 b2 hbase
 unfold Oper.wp
 simp [execOp,hop,resolve,invoke,builtin,hs,hx,hrun,Result.andThen]
 exact hK v' w' r1 r2
theorem Tryz.infoIns:(Tryz.prog.info? 232).map (fun i=>(i.zero,i.size,i.bytes))=some (some (.agg #[.int .i64 0,.int .i64 0,.int .i64 0,.int .i64 0,.int .i64 0,.int .u64 0,.int .u64 0,.int .u64 0,.int .u64 0]),9,72):=by kernel_rfl
abbrev ins (kind next other slot depth:Int) (m:Nat→Bool):List Value:=
 [.int .i64 kind,.int .i64 next,.int .i64 other,.int .i64 slot,.int .i64 depth,.int .u64 (wd m 0),.int .u64 (wd m 1),.int .u64 (wd m 2),.int .u64 (wd m 3)]
structure Ls (w:World) (L n:Nat) (xs:List Value) (d dp:Nat):Prop where
 lt:L < w.heap.size
 code:∃ v,w.cell? ⟨L,0,none⟩=some v∧w.ownsRow (L+1) 232 9 v n xs∧(v=.slice none 0 0∨∃ g c,v=.slice (some ⟨g,0,none⟩) n c)
 c1:w.cell? ⟨L,1,none⟩=some (.int .i64 d)
 c2:w.cell? ⟨L,2,none⟩=some (.int .i64 dp)
 free:∀ i,w.frozen? ⟨L,i,none⟩=false
theorem own_ne {W:World} {base size n:Nat} {e:TypeId} {v:Value} {xs:List Value} (h:W.ownsRow base e size v n xs) {k:Nat} (hk:k < base):some k≠v.ownBlock:=by
 rcases h.2 with ⟨hv,_⟩ | ⟨g,cap,cur,hv,hg,_⟩
 ·rw [hv];simp [Value.ownBlock]
 ·rw [hv];simp [Value.ownBlock];omega
theorem grown_cell {W w':World} {base size n:Nat} {e:TypeId} {v:Value} {xs:List Value} (h:W.ownsRow base e size v n xs) (hg:W.grownBy w' v.ownBlock) {p:Addr} (hp:p.block < base) (hl:p.block < W.heap.size):w'.cell? p=W.cell? p:=
 World.cell?_of_block (w:=W) (hg.block p.block hl (own_ne h hp))
theorem grown_free {W w':World} {base size n:Nat} {e:TypeId} {v:Value} {xs:List Value} (h:W.ownsRow base e size v n xs) (hg:W.grownBy w' v.ownBlock) {p:Addr} (hp:p.block < base) (hl:p.block < W.heap.size):w'.frozen? p=W.frozen? p:=
 World.frozen?_of_block (w:=W) (hg.block p.block hl (own_ne h hp))
theorem ins_one (kind next other slot depth:Int) (m:Nat→Bool):∀ u∈ins kind next other slot depth m,u.oneCell'=true:=by
 intro u hu
 simp only [ins,List.mem_cons,List.not_mem_nil,or_false] at hu
 rcases hu with h | h | h | h | h | h | h | h | h <;> subst h <;> rfl
theorem news_cells (W:World) (l:List Value) (t:TypeId) (a:Nat) (ha:a=W.heap.size):∀ j u,l[j]? = some u→((W.alloc (.cells l.toArray t)).drew).cell? ((⟨a,0,none⟩:Addr).add j)=some u:=by
 intro j u h
 subst ha
 show (W.alloc (.cells l.toArray t)).cell? _=_
 have e:(⟨W.heap.size,0,none⟩:Addr).add j=⟨W.heap.size,j,none⟩:=by unfold Addr.add;simp;exact fun h=>h.symm
 rw [e]
 simpa using h
structure AddedP (L n:Nat) (xs:List Value) (w w':World):Prop where
 code:∃ g c,w'.cell? ⟨L,0,none⟩=some (.slice (some ⟨g,0,none⟩) n c)∧w'.ownsRow (L+1) 232 9 (.slice (some ⟨g,0,none⟩) n c) n xs
 cell:∀ i,w'.cell? ⟨L,i+1,none⟩=w.cell? ⟨L,i+1,none⟩
 free:∀ i,w'.frozen? ⟨L,i,none⟩=w.frozen? ⟨L,i,none⟩
 below:Below L w w'
theorem added_of {L n:Nat} {xs ys:List Value} {v:Value} {w W w':World} (hl:L < w.heap.size) (hv:w.cell? ⟨L,0,none⟩=some v) (kW:Kp [] w W) (hown:W.ownsRow (L+1) 232 9 v n xs) (hg:W.grownBy w' v.ownBlock)
  {g c n':Nat} (hown':w'.ownsRow (L+1) 232 9 (.slice (some ⟨g,0,none⟩) n' c) n' ys):AddedP L n' ys w (w'.setCell ⟨L,0,none⟩ (.slice (some ⟨g,0,none⟩) n' c)):=by
 have hlW:L < W.heap.size:=Nat.lt_of_lt_of_le hl kW.size
 have hc:∀ i,w'.cell? ⟨L,i,none⟩=w.cell? ⟨L,i,none⟩:=fun i=>(grown_cell hown hg (p:=⟨L,i,none⟩) (Nat.lt_succ_self _) hlW).trans (kW.cell hl (by simp))
 have hf:∀ i,w'.frozen? ⟨L,i,none⟩=w.frozen? ⟨L,i,none⟩:=fun i=>(grown_free hown hg (p:=⟨L,i,none⟩) (Nat.lt_succ_self _) hlW).trans (kW.frozen hl (by simp))
 refine ⟨⟨g,c,cell_same _ ((hc 0).trans hv),ownsRow_setCell_below hown' (Nat.lt_succ_self _) _⟩,fun i=>?_,fun i=>?_,?_⟩
 ·rw [cell_other _ (by simp)];exact hc _
 ·simpa using hf i
 ·refine Below.setCell (p:=⟨L,0,none⟩) ?_ (Nat.le_refl L) _
  exact ⟨hg.os.trans kW.os,hg.tape.trans kW.tape,hg.output.trans kW.output,Nat.le_trans kW.size hg.size,
   fun k hk=>(hg.block k (by omega) (own_ne hown (by omega))).trans (kW.block k (by omega) (by simp))⟩
theorem add_any' {L n:Nat} {xs:List Value} {v:Value} {w:World} (hv:w.cell? ⟨L,0,none⟩=some v) (hown:w.ownsRow (L+1) 232 9 v n xs) (hn:n≤100000) (hl:L < w.heap.size) (hf:w.frozen? ⟨L,0,none⟩=false) (kind next other slot depth:Int) (m:Nat→Bool) :
  Calls Tryz.prog 112 #[.pointer (some ⟨L,0,none⟩),.agg (ins kind next other slot depth m).toArray] w fun e w'=>e=.returned (.int .i64 n) ∧
   AddedP L (n+1) (xs++ins kind next other slot depth m) w w':=by
 obtain ⟨i0,hi,hz0,hz1,hz2⟩:=info_parts Tryz.infoIns
 have HO:=hid hown
 have HV:=hid hv
 have HF:=hid hf
 have HL:=hid hl
 clear hown
 have hins:=ins_one kind next other slot depth m
 have HI:=hid hins
 clear hins
 unfold ins at *
 go_enter Tryz.func112,Tryz.ntmps112
 go_wp2
 go_region_law (refine step_append_own rfl (.tmp 9) (.tmp 11) 169 rfl (L+1) 232 i0 _ 9 72 Tryz.underlying169 hi hz0 hz1 hz2 rfl (by decide) v n xs (by simp [Act.eval]) (((HO.out.alloc _).alloc _).drew) ⟨w.heap.size+1,0,none⟩ 1 1 _ (by simp [Act.eval]) rfl (by exact news_cells (w.alloc _) _ _ _ (by simp)) HI.out (by unfold maxLen;omega) (by omega) (by simp;omega) ?_;intro v' w' hown' hgrow;have hex:=Joins.ownsRow_form hown' (by omega);obtain ⟨g,c,hv'⟩:=hex;rw [hv'] at hown' ⊢;have c0':=((grown_cell ((HO.out.alloc _).alloc _).drew hgrow (p:=⟨L,0,none⟩) (Nat.lt_succ_self _) (by simp;omega)).trans (((Kp.alloc [] _ _).trans ((Kp.alloc _ _ _).trans (Kp.drew _ _))).cell HL.out (by simp))).trans HV.out;have f0':=((grown_free ((HO.out.alloc _).alloc _).drew hgrow (p:=⟨L,0,none⟩) (Nat.lt_succ_self _) (by simp;omega)).trans (((Kp.alloc [] _ _).trans ((Kp.alloc _ _ _).trans (Kp.drew _ _))).frozen HL.out (by simp))).trans HF.out;have HO':=hid hown';have HG:=hid hgrow;clear hown' hgrow hv')
 all_goals go_wp2
 all_goals go_ret
 all_goals exact ⟨rfl,added_of HL.out HV.out ((Kp.alloc _ _ _).trans ((Kp.alloc _ _ _).trans (Kp.drew _ _))) ((HO.out.alloc _).alloc _).drew HG.out HO'.out⟩
theorem Ls.added {w w':World} {L n:Nat} {xs ys:List Value} {d dp:Nat} {n':Nat} (h:Ls w L n xs d dp) (a:AddedP L n' ys w w'):Ls w' L n' ys d dp:=by
 obtain ⟨g,c,h1,h2⟩:=a.code
 exact ⟨Nat.lt_of_lt_of_le h.lt a.below.size,⟨_,h1,h2,.inr ⟨g,c,rfl⟩⟩,(a.cell 0).trans h.c1,(a.cell 1).trans h.c2,fun i=>(a.free i).trans (h.free i)⟩
theorem Ls.keep {w w':World} {L n:Nat} {xs:List Value} {d dp:Nat} (h:Ls w L n xs d dp) (k:Kp [] w w'):Ls w' L n xs d dp:=by
 obtain ⟨v,h1,h2,h3⟩:=h.code
 refine ⟨Nat.lt_of_lt_of_le h.lt k.size,⟨v,(k.cell h.lt (by simp)).trans h1,⟨h2.1,?_⟩,h3⟩,(k.cell h.lt (by simp)).trans h.c1,(k.cell h.lt (by simp)).trans h.c2,fun i=>(k.frozen h.lt (by simp)).trans (h.free i)⟩
 rcases h2.2 with q | ⟨g,cap,cur,q1,q2,q3,q4⟩
 ·exact .inl q
 ·exact .inr ⟨g,cap,cur,q1,q2,(k.block g (lt_of_block q3) (by simp)).trans q3,q4⟩
theorem listAdd {L n:Nat} {xs:List Value} {d dp:Nat} {w:World} (h:Ls w L n xs d dp) (hn:n≤100000) (kind next other slot depth:Int) (m:Nat→Bool) :
  Calls Tryz.prog 112 #[.pointer (some ⟨L,0,none⟩),.agg (ins kind next other slot depth m).toArray] w fun e w'=>e=.returned (.int .i64 n)∧Ls w' L (n+1) (xs++ins kind next other slot depth m) d dp∧Below L w w':=by
 obtain ⟨v,h1,h2,_⟩:=h.code
 exact (add_any' h1 h2 hn h.lt (h.free 0) kind next other slot depth m).mono fun e w' ⟨he,ha⟩=>⟨he,h.added ha,ha.below⟩
