import Derived.Test.YtnfglkdkmcocnaaGreatDoorR18
set_option maxRecDepth 100000
set_option maxHeartbeats 16000000
set_option linter.all false
namespace Go.Proofs.YtnfglkdkmcocnaaGreatDoor
open Go.RowKit
def lcpL:List UInt8→List UInt8→Nat
 | a::s,b::w=>if a=b then lcpL s w+1 else 0
 | _,_=>0
theorem lcpL_le:∀ s w:List UInt8,lcpL s w≤w.length∧lcpL s w≤s.length
 | [],w=>by cases w <;> simp [lcpL]
 | _::_,[]=>by simp [lcpL]
 | a::s,b::w=>by
  unfold lcpL
  have:=lcpL_le s w
  split
  ·simp;omega
  ·simp
theorem lcpL_iff:∀ (s w:List UInt8) (j:Nat),j≤lcpL s w ↔ j≤s.length∧j≤w.length∧s.take j=w.take j
 | _,_,0=>by simp
 | [],w,j+1=>by cases w <;> simp [lcpL]
 | _::_,[],j+1=>by simp [lcpL]
 | a::s,b::w,j+1=>by
  unfold lcpL
  have:=lcpL_iff s w j
  by_cases e:a=b
  ·subst e
   simp [this]
  ·simp [e]
theorem lcpL_cons (a b:UInt8) (s w:List UInt8):lcpL (a::s) (b::w)=if a=b then lcpL s w+1 else 0:=rfl
theorem lcpL_app:∀ (s w v:List UInt8),lcpL s (w++v)=if lcpL s w=w.length then w.length+lcpL (s.drop w.length) v else lcpL s w
 | s,[],v=>by cases s <;> simp [lcpL]
 | [],b::w,v=>by simp [lcpL]
 | a::s,b::w,v=>by
  rw [List.cons_append,lcpL_cons,lcpL_cons,lcpL_app s w v]
  by_cases e:a=b
  ·rw [if_pos e,if_pos e]
   by_cases q:lcpL s w=w.length
   ·rw [if_pos q,if_pos (by simp [q]),List.length_cons,List.drop_succ_cons];omega
   ·rw [if_neg q,if_neg (by simp [q])]
  ·simp [e]
def nwd (i:Nat):List UInt8:=(nmN i).data.toList++[58,93]
def namedF (s:List UInt8) (f:Nat):Nat→Nat→Nat→Nat×Nat
 | 0,i,far=>(i,far)
 | n+1,i,far=>if lcpL s (nwd i)=7 then (i,f+7) else namedF s f n (i+1) (max far (f+lcpL s (nwd i)))
theorem nwd_lcp (s:List UInt8) (i:Nat):lcpL s (nwd i)=if lcpL s (nmN i).data.toList=5 then 5+lcpL (s.drop 5) [58,93] else lcpL s (nmN i).data.toList:=by
 have h:(nmN i).data.toList.length=5:=by have:=nmN_size i;simpa using this
 rw [nwd,lcpL_app,h]
section
variable {src:ByteArray} {f:Nat}
theorem ext_take (j:Nat):(src.extract f (f+j)).data.toList=(src.data.toList.drop f).take j:=by
 simp [ByteArray.data_extract]
theorem preN_iff {i j:Nat} (h:f+(j+1)≤src.size):preB (nmN i) (src.extract f (f+j+1))=true ↔ j+1≤lcpL (src.data.toList.drop f) (nmN i).data.toList:=by
 have hs:(src.extract f (f+j+1)).size=j+1:=by rw [ByteArray.size_extract];omega
 have h5:=nmN_size i
 have hl:(nmN i).data.toList.length=5:=by simpa using h5
 have e:=ext_take (src:=src) (f:=f) (j+1)
 have e2:((nmN i).extract 0 (j+1)).data.toList=(nmN i).data.toList.take (j+1):=by simp [ByteArray.data_extract]
 unfold preB
 rw [hs,lcpL_iff,hl,toList_data,toList_data,e2,show f+j+1=f+(j+1) by omega,e]
 simp only [Bool.and_eq_true,decide_eq_true_eq,beq_iff_eq,h5,List.length_drop,Array.length_toList]
 constructor
 ·rintro ⟨a,b⟩
  exact ⟨by have:=src.size_data;omega,a,b.symm⟩
 ·rintro ⟨_,a,b⟩
  exact ⟨a,b.symm⟩
theorem eq_iff {i j:Nat} (h:f+(j+1)≤src.size):((nmN i).toList == (src.extract f (f+j+1)).toList)=true ↔ j=4∧lcpL (src.data.toList.drop f) (nmN i).data.toList=5:=by
 have h5:=nmN_size i
 have hl:(nmN i).data.toList.length=5:=by simpa using h5
 have e:=ext_take (src:=src) (f:=f) (j+1)
 have:=lcpL_iff (src.data.toList.drop f) (nmN i).data.toList 5
 have hle:=(lcpL_le (src.data.toList.drop f) (nmN i).data.toList).1
 have hsz:=src.size_data
 rw [beq_iff_eq,toList_data,toList_data,show f+j+1=f+(j+1) by omega,e]
 constructor
 ·intro q
  have q1:=congrArg List.length q
  rw [hl,List.length_take,List.length_drop,Array.length_toList] at q1
  have q2:j=4:=by omega
  subst q2
  refine ⟨rfl,?_⟩
  have:=this.2 ⟨by rw [List.length_drop,Array.length_toList];omega,by omega,by rw [←q,List.take_of_length_le (by omega)]⟩
  omega
 ·rintro ⟨rfl,q⟩
  have:=(this.1 (by omega)).2.2
  rw [List.take_of_length_le (l:=(nmN i).data.toList) (by omega)] at this
  exact this.symm
def mxN (s:List UInt8):Nat→Nat
 | 0=>0
 | n+1=>max (mxN s n) (lcpL s (nmN n).data.toList)
theorem mxN_iff (s:List UInt8) (j:Nat):∀ n,j+1≤mxN s n ↔ ∃ i,i < n∧j+1≤lcpL s (nmN i).data.toList
 | 0=>by simp [mxN]
 | n+1=>by
  have ih:=mxN_iff s j n
  rw [mxN]
  constructor
  ·intro h
   by_cases e:j+1≤mxN s n
   ·obtain ⟨i,h1,h2⟩:=ih.1 e
    exact ⟨i,by omega,h2⟩
   ·exact ⟨n,by omega,by omega⟩
  ·rintro ⟨i,h1,h2⟩
   by_cases e:i=n
   ·subst e;omega
   ·have:=ih.2 ⟨i,by omega,h2⟩;omega
theorem mxN_le (s:List UInt8):∀ n,mxN s n≤5∧mxN s n≤s.length
 | 0=>by simp [mxN]
 | n+1=>by
  have h5:=nmN_size n
  have hl:(nmN n).data.toList.length=5:=by simpa using h5
  have:=lcpL_le s (nmN n).data.toList
  have:=mxN_le s n
  rw [mxN];omega
theorem beg_iff {j:Nat} (h:f+(j+1)≤src.size):begNm (src.extract f (f+j+1))=true ↔ j+1≤mxN (src.data.toList.drop f) 7:=by
 unfold begNm
 rw [List.any_eq_true,mxN_iff]
 constructor
 ·rintro ⟨i,h1,h2⟩
  exact ⟨i,List.mem_range.1 h1,(preN_iff h).1 h2⟩
 ·rintro ⟨i,h1,h2⟩
  exact ⟨i,List.mem_range.2 h1,(preN_iff h).2 h2⟩
theorem names_one:∀ i k:Fin 7,(nmN i).data.toList=(nmN k).data.toList→i=k:=by decide +kernel
theorem one_name {s:List UInt8} {i k:Nat} (hi:i < 7) (hk:k < 7) (h1:lcpL s (nmN i).data.toList=5) (h2:lcpL s (nmN k).data.toList=5):i=k:=by
 have l1:(nmN i).data.toList.length=5:=by have:=nmN_size i;simpa using this
 have l2:(nmN k).data.toList.length=5:=by have:=nmN_size k;simpa using this
 have a:=((lcpL_iff s (nmN i).data.toList 5).1 (by omega)).2.2
 have b:=((lcpL_iff s (nmN k).data.toList 5).1 (by omega)).2.2
 rw [a,List.take_of_length_le (by omega),List.take_of_length_le (by omega)] at b
 exact congrArg Fin.val (names_one ⟨i,hi⟩ ⟨k,hk⟩ b)
theorem isNm_eq {j:Nat} (h:f+(j+1)≤src.size) {i:Nat} (hi:i < 7) (h1:j=4) (h2:lcpL (src.data.toList.drop f) (nmN i).data.toList=5):isNm (src.extract f (f+j+1))=some i:=by
 unfold isNm
 cases e:(List.range 7).find? fun i=>(nmN i).toList == (src.extract f (f+j+1)).toList with
 | none=>
  have:=List.find?_eq_none.1 e i (List.mem_range.2 hi)
  exact absurd ((eq_iff h).2 ⟨h1,h2⟩) this
 | some k=>
  have a:=List.find?_some e
  have b:=List.mem_range.1 (List.mem_of_find?_eq_some e)
  rw [one_name b hi ((eq_iff h).1 a).2 h2]
theorem isNm_no {j:Nat} (h:f+(j+1)≤src.size) (h1:j≠4):isNm (src.extract f (f+j+1))=none:=by
 unfold isNm
 rw [List.find?_eq_none]
 intro i _ q
 exact h1 ((eq_iff h).1 q).1
theorem nameP_eq:∀ (n j:Nat),j≤mxN (src.data.toList.drop f) 7→mxN (src.data.toList.drop f) 7≤n+j→f+j≤src.size→j≤4 →
  ((∃ i,i < 7∧lcpL (src.data.toList.drop f) (nmN i).data.toList=5∧nameP src f (n+1) (f+j)=.ok (f+5,i))∨(mxN (src.data.toList.drop f) 7 < 5∧nameP src f (n+1) (f+j)=.error (f+mxN (src.data.toList.drop f) 7))):=by
 intro n
 have hm:=mxN_le (src.data.toList.drop f) 7
 have hsz:(src.data.toList.drop f).length=src.size - f:=by rw [List.length_drop,Array.length_toList];have:=src.size_data;omega
 have stop:∀ n j,j=mxN (src.data.toList.drop f) 7→j≤4→nameP src f (n+1) (f+j)=.error (f+mxN (src.data.toList.drop f) 7):=by
  intro n j h1 h2
  rw [nameP,if_neg]
  ·rw [h1]
  ·rintro ⟨a,b⟩
   have:=(beg_iff (by omega)).1 b
   omega
 induction n with
 | zero=>
  intro j h1 h2 h3 h4
  exact .inr ⟨by omega,stop 0 j (by omega) h4⟩
 | succ n ih=>
  intro j h1 h2 h3 h4
  by_cases e:j+1≤mxN (src.data.toList.drop f) 7
  ·have hlt:f+(j+1)≤src.size:=by omega
   rw [nameP,if_pos ⟨by omega,(beg_iff hlt).2 e⟩]
   by_cases e4:j=4
   ·subst e4
    obtain ⟨i,a,b⟩:=(mxN_iff _ _ _).1 e
    have hl:(nmN i).data.toList.length=5:=by have:=nmN_size i;simpa using this
    have:=lcpL_le (src.data.toList.drop f) (nmN i).data.toList
    have b5:lcpL (src.data.toList.drop f) (nmN i).data.toList=5:=by omega
    rw [isNm_eq hlt a rfl b5]
    exact .inl ⟨i,a,b5,rfl⟩
   ·rw [isNm_no hlt e4]
    exact ih (j+1) e (by omega) hlt (by omega)
  ·exact .inr ⟨by omega,stop (n+1) j (by omega) h4⟩
theorem namedF_no {s:List UInt8}:∀ (n i far:Nat),i+n=7→f+mxN s i≤far→(∀ k,k < 7→lcpL s (nmN k).data.toList≠5)→namedF s f n i far=(7,max far (f+mxN s 7))
 | 0,i,far,h1,h2,_=>by
  have:i=7:=by omega
  subst this
  rw [namedF,Nat.max_eq_left h2]
 | n+1,i,far,h1,h2,h3=>by
  have e:=nwd_lcp s i
  rw [if_neg (h3 i (by omega))] at e
  have hl:(nmN i).data.toList.length=5:=by have:=nmN_size i;simpa using this
  have:=lcpL_le s (nmN i).data.toList
  rw [namedF,e,if_neg (by omega),namedF_no n (i+1) _ (by omega) (by rw [mxN];omega) h3]
  have:mxN s (i+1)≤mxN s 7:=by
   have:∀ a b,a≤b→mxN s a≤mxN s b:=fun a b h=>by
    induction b with
    | zero=>rw [show a=0 by omega];exact Nat.le_refl _
    | succ b ih=>
     by_cases q:a≤b
     ·have:=ih q;rw [mxN];omega
     ·rw [show a=b+1 by omega];exact Nat.le_refl _
   exact this _ _ (by omega)
  rw [mxN] at this
  congr 1
  omega
theorem namedF_yes {s:List UInt8} {k:Nat} (hk:k < 7) (h5:lcpL s (nmN k).data.toList=5):∀ (n i far:Nat),i+n=7→i≤k→far≤f+5 →
  namedF s f n i far=if lcpL (s.drop 5) [58,93]=2 then (k,f+7) else (7,f+5+lcpL (s.drop 5) [58,93])
 | 0,i,far,h1,h2,_=>by omega
 | n+1,i,far,h1,h2,h3=>by
  have hl:(nmN i).data.toList.length=5:=by have:=nmN_size i;simpa using this
  have hle:=lcpL_le s (nmN i).data.toList
  have h2c:=(lcpL_le (s.drop 5) [58,93]).1
  have h2c:lcpL (s.drop 5) [58,93]≤2:=h2c
  have e:=nwd_lcp s i
  by_cases q:i=k
  ·subst q
   rw [if_pos h5] at e
   rw [namedF,e]
   by_cases q2:lcpL (s.drop 5) [58,93]=2
   ·rw [if_pos (by omega),if_pos q2]
   ·rw [if_neg (by omega),if_neg q2]
    have no:∀ (n i' far:Nat),i'+n=7→i < i'→f+5≤far→namedF s f n i' far=(7,far):=by
     intro n
     induction n with
     | zero=>intro i' far a _ _;rw [namedF,show i'=7 by omega]
     | succ n ih=>
      intro i' far a b c
      have hl:(nmN i').data.toList.length=5:=by have:=nmN_size i';simpa using this
      have hle:=lcpL_le s (nmN i').data.toList
      have e:=nwd_lcp s i'
      rw [if_neg (fun z=>by have:=one_name (by omega) (by omega) z h5;omega)] at e
      have:lcpL s (nmN i').data.toList≠5:=fun z=>by have:=one_name (by omega) (by omega) z h5;omega
      rw [namedF,e,if_neg (by omega),ih _ _ (by omega) (by omega) (by omega)]
      congr 1;omega
    rw [no n (i+1) _ (by omega) (by omega) (by omega)]
    congr 1;omega
  ·have:lcpL s (nmN i).data.toList≠5:=fun z=>q (one_name (by omega) hk z h5)
   rw [if_neg this] at e
   rw [namedF,e,if_neg (by omega),namedF_yes hk h5 n (i+1) _ (by omega) (by omega) (by omega)]
theorem sawL_eq (k:Nat) (c:UInt8):saw src k (c.toNat:Int)=decide (src.data.toList[k]? = some c):=by
 unfold saw
 by_cases h:k < src.size
 ·rw [dif_pos h]
  have hk:k < src.data.toList.length:=by rw [Array.length_toList];exact h
  rw [List.getElem?_eq_getElem hk,Bool.eq_iff_iff]
  simp only [beq_iff_eq,decide_eq_true_eq,Option.some.injEq]
  have e:src[k]=src.data.toList[k]:=rfl
  rw [←e]
  constructor
  ·intro q;exact UInt8.toNat.inj (by omega)
  ·intro q;rw [q]
 ·rw [dif_neg h,List.getElem?_eq_none (by rw [Array.length_toList];have:=src.size_data;omega)]
  simp
theorem named_eq (hf:f≤src.size):namedF (src.data.toList.drop f) f 7 0 f=match nameP src f (src.size+1) f with
  | .error pl=>(7,pl)
  | .ok (l,i)=>if saw src l 58 then (if saw src (l+1) 93 then (i,l+2) else (7,l+1)) else (7,l):=by
 have hm:=mxN_le (src.data.toList.drop f) 7
 have hsz:(src.data.toList.drop f).length=src.size - f:=by rw [List.length_drop,Array.length_toList];have:=src.size_data;omega
 rcases nameP_eq (src:=src) (f:=f) src.size 0 (Nat.zero_le _) (by omega) (by omega) (by omega) with ⟨i,h1,h2,h3⟩ | ⟨h1,h2⟩
 ·have h3:nameP src f (src.size+1) f=.ok (f+5,i):=h3
  rw [h3,namedF_yes h1 h2 7 0 f (by omega) (by omega) (by omega)]
  dsimp only
  have g:∀ k,(src.data.toList.drop f)[k]? = src.data.toList[f+k]?:=fun k=>by rw [List.getElem?_drop]
  have s1:=sawL_eq (src:=src) (f+5) 58
  have s2:=sawL_eq (src:=src) (f+5+1) 93
  rw [←g 5] at s1
  rw [show f+5+1=f+6 by omega,←g 6] at s2
  rw [show f+5+1=f+6 by omega,show f+5+2=f+7 by omega]
  have s1:saw src (f+5) 58=decide ((src.data.toList.drop f)[5]? = some 58):=s1
  have s2:saw src (f+6) 93=decide ((src.data.toList.drop f)[6]? = some 93):=s2
  rw [s1,s2]
  generalize src.data.toList.drop f=s
  have e5:s[5]? = (s.drop 5)[0]?:=by rw [List.getElem?_drop]
  have e6:s[6]? = (s.drop 5)[1]?:=by rw [List.getElem?_drop]
  rw [e5,e6]
  generalize s.drop 5=t
  match t with
  | []=>simp [lcpL]
  | [a]=>by_cases q:a=58 <;> simp [lcpL,q]
  | a::b::t=>
   by_cases q:a=58
   ·by_cases q2:b=93 <;> simp [lcpL,q,q2]
   ·simp [lcpL,q]
 ·have h2:nameP src f (src.size+1) f=.error (f+mxN (src.data.toList.drop f) 7):=h2
  rw [h2]
  dsimp only
  rw [namedF_no 7 0 f (by omega) (by simp [mxN]) fun k hk q=>by
   have:=(mxN_iff (src.data.toList.drop f) 4 7).2 ⟨k,hk,by omega⟩
   omega]
  congr 1
  omega
end
