import Derived.Test.YtnfglkdkmcocnaaGreatDoorR21
import Derived.Test.YtnfglkdkmcocnaaGreatDoorR23
import Derived.Test.YtnfglkdkmcocnaaGreatDoorR16
set_option maxRecDepth 100000
set_option maxHeartbeats 16000000
set_option linter.all false
namespace Go.Proofs.YtnfglkdkmcocnaaGreatDoor
open Go.RowKit
abbrev itemSp:ByteArray:=⟨#[10,91,93,45]⟩
section
variable {w w' w1:World} {B b q:Nat} {src:ByteArray} {k g:Nat} {bad:Int} {v v' v1:Value} {N:List Nw}
theorem saw_c (hk:k < src.size) (x:UInt8):saw src k (x.toNat:Int)=decide (src[k]'hk=x):=by
 unfold saw
 rw [dif_pos hk,Bool.eq_iff_iff,beq_iff_eq,decide_eq_true_eq]
 constructor
 ·intro e;exact UInt8.toNat.inj (by omega)
 ·intro e;rw [e]
theorem item_mem (hk:k < src.size) (h92:saw src k 92=false):mem (pk src k) itemSp=(saw src k 10 || !decide (Lib.indexByte clSpecial.data.toList (src[k]'hk) < 0)):=by
 have e92:=saw_c hk 92
 have e10:=saw_c hk 10
 have e92:saw src k 92=decide (src[k]'hk=92):=e92
 have e10:saw src k 10=decide (src[k]'hk=10):=e10
 rw [e92] at h92
 have n92:¬ src[k]'hk=92:=by simpa using h92
 rw [pk_lt hk,mem_idx,e10]
 have hL:∀ c:UInt8,¬ c=92→(decide (Lib.indexByte [10,91,93,45] c < 0))=(!decide (c=10) && decide (Lib.indexByte [92,91,93,45] c < 0)):=fun c hc=>by
  rw [Bool.eq_iff_iff]
  simp only [Bool.and_eq_true,Bool.not_eq_true',decide_eq_true_eq,decide_eq_false_iff_not,idx_mem,List.mem_cons,List.not_mem_nil,or_false,not_or,hc,not_false_eq_true,true_and]
 have:=hL (src[k]'hk) n92
 show (!decide (Lib.indexByte [10,91,93,45] (src[k]'hk) < 0))=(decide (src[k]'hk=10) || !decide (Lib.indexByte [92,91,93,45] (src[k]'hk) < 0))
 rw [this]
 cases decide (src[k]'hk=10) <;> cases decide (Lib.indexByte [92,91,93,45] (src[k]'hk) < 0) <;> rfl
theorem item_mem92 (h92:saw src k 92=true):mem (pk src k) itemSp=false∧pk src k=92:=by
 have hk:=saw_lt h92
 have e:pk src k=92:=by have:=pk_saw src k (x:=92) (by omega);rw [h92] at this;simpa using this
 exact ⟨by rw [e];decide,e⟩
theorem item_ok {l x:Nat} (h:Pr w b q src k bad) (he:bytP src clSpecial clEscaped k=.ok (l,x)) :
  Calls Tryz.prog 268 #[.pointer (some ⟨b,0,none⟩)] w fun e w'=>e=.returned (.int .i64 x)∧Pr w' b q src l bad∧Kp [b] w w':=by
 have hsm:=h.small
 have c1:=h.c1
 have f1:=h.free 1
 have hof:itemSp.size≤1000:=by decide
 unfold bytP at he
 cases h92:saw src k 92 with
 | true=>
  rw [h92,if_pos rfl] at he
  have hk:=saw_lt h92
  obtain ⟨hm,hp⟩:=item_mem92 h92
  rw [hp] at hm
  have hw:IntKind.i64.wrap ((k:Int)+1)=((k+1:Nat):Int):=wrap_i64_succ k (k+1) rfl (by omega)
  have hx256:x < 256:=by
   unfold escP at he
   repeat' split at he
   all_goals first | (cases he;done) | (cases he;omega) | (cases he;exact UInt8.toNat_lt _)
  have hwx:wrap64 (x:Int)=(x:Int):=by unfold wrap64;omega
  have HE:=hid he
  have HP:=hid (And.intro h hp)
  have KX:∀ n,Pr ((w.drewN n).setCell ⟨b,1,none⟩ (.int .i64 ((k+1:Nat):Int))) b q src (k+1) bad∧Kp [b] w ((w.drewN n).setCell ⟨b,1,none⟩ (.int .i64 ((k+1:Nat):Int))):=fun n=>⟨(h.drewN n).goto _ (by omega),(Kp.drewN _ _ _).trans (Kp.setCell _ _ (by simp))⟩
  have HK:=hid KX
  have hof2:clEscaped.size≤1000:=by decide
  clear he h92 hp h KX hsm
  go_enter Tryz.func268,Tryz.ntmps268
  go_wp2_with fail
  refine (peekR_v HP.out.1 HP.out.2).mono ?_
  rintro e w1 ⟨rfl,n,rfl⟩
  go_wp2_with fail
  refine (member_v hof hm).mono ?_
  rintro e w1 ⟨rfl,rfl⟩
  go_wp2_with fail
  refine (escaped_ok (HK.out n).1 hof2 HE.out).mono ?_
  rintro e w1 ⟨rfl,p1,k1⟩
  go_wp2_with fail
  go_ret
  exact ⟨by simp [hwx],p1,(HK.out n).2.trans k1⟩
 | false=>
  rw [h92,if_neg (by simp)] at he
  split at he
  ·rename_i hk
   split at he
   ·cases he
   ·rename_i h10
    split at he
    ·rename_i hx
     cases he
     obtain ⟨z,hz⟩:∃ z,z=pk src k:=⟨_,rfl⟩
     have hm:=item_mem hk h92
     rw [←hz,show saw src k 10=false by simpa using h10,decide_eq_true hx] at hm
     have hm:mem z itemSp=false:=hm
     have hzc:z=((src[k]'hk).toNat:Int):=by rw [hz,pk_lt hk]
     have n92:¬ z=92:=by have:=pk_saw src k (x:=92) (by omega);rw [h92,←hz] at this;simpa using this
     have z0:¬ z < 0:=by omega
     have hw:IntKind.i64.wrap ((k:Int)+1)=((k+1:Nat):Int):=wrap_i64_succ k (k+1) rfl (by omega)
     have HP:=hid (And.intro h hz.symm)
     have KX:∀ n,Pr ((w.drewN n).setCell ⟨b,1,none⟩ (.int .i64 ((k+1:Nat):Int))) b q src (k+1) bad∧Kp [b] w ((w.drewN n).setCell ⟨b,1,none⟩ (.int .i64 ((k+1:Nat):Int))):=fun n=>⟨(h.drewN n).goto _ (by omega),(Kp.drewN _ _ _).trans (Kp.setCell _ _ (by simp))⟩
     have HK:=hid KX
     have HZ:=hid hzc
     clear hz h92 h10 hx h KX hsm hzc
     go_enter Tryz.func268,Tryz.ntmps268
     go_wp2_with fail
     refine (peekR_v HP.out.1 HP.out.2).mono ?_
     rintro e w1 ⟨rfl,n,rfl⟩
     go_wp2_with fail
     refine (member_v hof hm).mono ?_
     rintro e w1 ⟨rfl,rfl⟩
     go_wp2_with fail
     go_ret
     exact ⟨by rw [←HZ.out];rfl,HK.out n⟩
    ·cases he
  ·cases he
theorem item_err {l:Nat} (h:Pr w b q src k bad) (hks:k≤src.size) (hbad:bad < 0) (he:bytP src clSpecial clEscaped k=.error l) :
  Calls Tryz.prog 268 #[.pointer (some ⟨b,0,none⟩)] w fun e w'=>e=.returned (.int .i64 0)∧(∃ k',(k≤k'∧k'≤src.size)∧Pr w' b q src k' l)∧Kp [b] w w':=by
 have hsm:=h.small
 have c1:=h.c1
 have f1:=h.free 1
 have hof:itemSp.size≤1000:=by decide
 unfold bytP at he
 cases h92:saw src k 92 with
 | true=>
  rw [h92,if_pos rfl] at he
  have hk:=saw_lt h92
  obtain ⟨hm,hp⟩:=item_mem92 h92
  rw [hp] at hm
  have hw:IntKind.i64.wrap ((k:Int)+1)=((k+1:Nat):Int):=wrap_i64_succ k (k+1) rfl (by omega)
  have HE:=hid (And.intro he hbad)
  have HP:=hid (And.intro h hp)
  have KX:∀ n,Pr ((w.drewN n).setCell ⟨b,1,none⟩ (.int .i64 ((k+1:Nat):Int))) b q src (k+1) bad∧Kp [b] w ((w.drewN n).setCell ⟨b,1,none⟩ (.int .i64 ((k+1:Nat):Int))):=fun n=>⟨(h.drewN n).goto _ (by omega),(Kp.drewN _ _ _).trans (Kp.setCell _ _ (by simp))⟩
  have HK:=hid KX
  have hof2:clEscaped.size≤1000:=by decide
  clear he h92 hp h KX hsm hbad
  go_enter Tryz.func268,Tryz.ntmps268
  go_wp2_with fail
  refine (peekR_v HP.out.1 HP.out.2).mono ?_
  rintro e w1 ⟨rfl,n,rfl⟩
  go_wp2_with fail
  refine (member_v hof hm).mono ?_
  rintro e w1 ⟨rfl,rfl⟩
  go_wp2_with fail
  refine (escaped_err (HK.out n).1 HE.out.2 hof2 HE.out.1).mono ?_
  rintro e w1 ⟨rfl,p1,k1⟩
  go_wp2_with fail
  go_ret
  exact ⟨by simp [wrap64],⟨_,⟨by omega,by omega⟩,p1⟩,(HK.out n).2.trans k1⟩
 | false=>
  rw [h92,if_neg (by simp)] at he
  obtain ⟨z,hz⟩:∃ z,z=pk src k:=⟨_,rfl⟩
  have H:l=k∧((mem z itemSp=true∧¬ z < 0)∨(mem z itemSp=false∧z < 0)):=by
   split at he
   ·rename_i hk
    have hm:=item_mem hk h92
    rw [←hz] at hm
    have z0:¬ z < 0:=by rw [hz,pk_lt hk];omega
    split at he
    ·rename_i h10
     cases he
     exact ⟨rfl,.inl ⟨by rw [hm,h10];rfl,z0⟩⟩
    ·split at he
     ·cases he
     ·rename_i hx
      cases he
      exact ⟨rfl,.inl ⟨by rw [hm,decide_eq_false hx];simp,z0⟩⟩
   ·rename_i hk
    cases he
    have:z = -1:=by rw [hz,pk_end hk]
    exact ⟨rfl,.inr ⟨by rw [this];exact mem_end _,by omega⟩⟩
  obtain ⟨rfl,H⟩:=H
  have HP:=hid (And.intro h (And.intro hz.symm hbad))
  clear he hz h92 h hbad hsm
  rcases H with ⟨hm,z0⟩ | ⟨hm,z0⟩
  all_goals
   go_enter Tryz.func268,Tryz.ntmps268
   go_wp2_with fail
   refine (peekR_v HP.out.1 HP.out.2.1).mono ?_
   rintro e w1 ⟨rfl,n,rfl⟩
   go_wp2_with fail
   refine (member_v hof hm).mono ?_
   rintro e w1 ⟨rfl,rfl⟩
   go_wp2_with fail
   refine (failR_first (HP.out.1.drewN n) l HP.out.2.2).mono ?_
   rintro e w1 ⟨rfl,p1,k1⟩
   go_wp2_with fail
   go_ret
   exact ⟨rfl,⟨_,⟨Nat.le_refl _,hks⟩,p1⟩,(Kp.drewN _ _ _).trans k1⟩
end
def wthF (i c:Nat):Bool:=
 let u:=decide (65≤c) && decide (c≤90)
 let l:=decide (97≤c) && decide (c≤122)
 let d:=decide (48≤c) && decide (c≤57)
 match i with
 | 0=>u || l
 | 1=>d
 | 2=>u || l || d
 | 3=>u
 | 4=>l
 | 5=>c == 32 || (decide (9≤c) && decide (c≤13))
 | _=>decide (33≤c) && decide (c≤126) && !u && !l && !d
theorem addSp_or (x:Nat):∀ (l:List UInt8) (m:Nat→Bool),addSp m l x=(m x || addSp noBytes l x)
 | [],m=>by simp [addSp,noBytes]
 | [_],m=>by simp [addSp,noBytes]
 | a::b::l,m=>by
  rw [addSp,addSp,addSp_or x l,addSp_or x l (span noBytes a.toNat (b.toNat+1))]
  simp [span,noBytes,Bool.or_assoc]
theorem within_all:∀ i:Fin 7,∀ c:Fin 256,addSp noBytes (nmS i).data.toList c=wthF i c:=by decide +kernel
theorem within_eq {i x:Nat} (m:Nat→Bool) (hi:i < 7) (hx:x < 256):addSp m (nmS i).data.toList x=(m x || wthF i x):=by
 rw [addSp_or,within_all ⟨i,hi⟩ ⟨x,hx⟩]
section
variable {w:World}
theorem within_any {i c:Nat} (hi:i < 7) (hc:c < 256):Calls Tryz.prog 184 #[.string (nmN i),.int .i64 c] w fun e w'=>e=.returned (.bool (wthF i c))∧w'=w:=by
 have hi':i=0∨i=1∨i=2∨i=3∨i=4∨i=5∨i=6:=by omega
 have T:c < 48∨(48≤c∧c≤57)∨(58≤c∧c < 65)∨(65≤c∧c≤90)∨(91≤c∧c < 97)∨(97≤c∧c≤122)∨123≤c:=by omega
 clear hi
 rcases hi' with rfl | rfl | rfl | rfl | rfl | rfl | rfl
 all_goals
  rcases T with T | T | T | T | T | T | T
  all_goals
   first | (have a1:(65:Int)≤c:=by omega) | (have a1:¬ (65:Int)≤c:=by omega)
   first | (have a2:(c:Int)≤90:=by omega) | (have a2:¬ (c:Int)≤90:=by omega)
   first | (have a3:(97:Int)≤c:=by omega) | (have a3:¬ (97:Int)≤c:=by omega)
   first | (have a4:(c:Int)≤122:=by omega) | (have a4:¬ (c:Int)≤122:=by omega)
   first | (have a5:(48:Int)≤c:=by omega) | (have a5:¬ (48:Int)≤c:=by omega)
   first | (have a6:(c:Int)≤57:=by omega) | (have a6:¬ (c:Int)≤57:=by omega)
   have HT:=hid (And.intro T hc)
   clear T hc
   unfold nmN
   go_enter Tryz.func184,Tryz.ntmps184
   go_wp2_with fail
   all_goals go_ret
   all_goals
    have HT':=HT.out
    refine ⟨congrArg Ending.returned (congrArg Value.bool ?_),rfl⟩
    rw [Bool.eq_iff_iff]
    simp [wthF]
    try omega
end
theorem lcp_step (s w:List UInt8) {m:Nat} (h:m≤lcpL s w):m+1≤lcpL s w ↔ ∃ a,s[m]? = some a∧w[m]? = some a:=by
 rw [lcpL_iff] at h ⊢
 obtain ⟨h1,h2,h3⟩:=h
 constructor
 ·rintro ⟨g1,g2,g3⟩
  have e:=congrArg (fun l:List UInt8=>l[m]?) g3
  simp only [List.getElem?_take_of_lt (show m < m+1 by omega)] at e
  exact ⟨s[m],List.getElem?_eq_getElem (by omega),by rw [←e];exact List.getElem?_eq_getElem (by omega)⟩
 ·rintro ⟨a,g1,g2⟩
  have l1:=(List.getElem?_eq_some_iff.1 g1).1
  have l2:=(List.getElem?_eq_some_iff.1 g2).1
  exact ⟨by omega,by omega,by rw [List.take_add_one,List.take_add_one,h3,g1,g2]⟩
abbrev wdB (i:Nat):ByteArray:=nmN i++(⟨#[58,93]⟩:ByteArray)
theorem wdB_list (i:Nat):(wdB i).data.toList=nwd i:=by
 simp [wdB,nwd,ByteArray.data_append]
theorem wdB_size (i:Nat):(wdB i).size=7:=by
 have:=nmN_size i
 rw [ByteArray.size_append,this];rfl
theorem nwd_len (i:Nat):(nwd i).length=7:=by rw [←wdB_list,Array.length_toList];exact wdB_size i
def nmO (i:Nat):ByteArray:=if i < 7 then nmN i else ⟨#[]⟩
def nmL:List Value:=(List.range 7).map fun i=>.string (nmN i)
section
variable {w w' w1:World} {B b q:Nat} {src:ByteArray} {k g:Nat} {bad:Int}
theorem named_any (h:Pr w b q src k bad) (hk:k≤src.size):Calls Tryz.prog 267 #[.pointer (some ⟨b,0,none⟩)] w fun e w'=>
  e=.returned (.tuple #[.string (nmO (namedF (src.data.toList.drop k) k 7 0 k).1),.int .i64 (namedF (src.data.toList.drop k) k 7 0 k).2])∧Kp [] w w':=by
 obtain ⟨R,hR⟩:∃ R,R=namedF (src.data.toList.drop k) k 7 0 k:=⟨_,rfl⟩
 obtain ⟨s,hs⟩:∃ s,s=src.data.toList.drop k:=⟨_,rfl⟩
 rw [←hR]
 rw [←hs] at hR
 have HR:=hid hR
 have HS:=hid hs
 have hsm:=h.small
 have c1:=h.c1
 have hlt:=h.lt
 have HN:∀ o:Obj,o=.cells nmL.toArray 9→Bl (w.alloc o) w.heap.size nmL∧Kp [] w (w.alloc o):=fun o ho=>⟨by rw [ho];exact Bl.alloc _ _ _,Kp.alloc _ _ _⟩
 have HNB:=hid (HN _ rfl)
 clear hR hs HN
 go_enter Tryz.func267,Tryz.ntmps267
 go_wp2_with fail
 obtain ⟨b0,k0⟩:=HNB.out
 have b0:Bl (w.alloc (.cells #[.string ⟨#[97,108,112,104,97]⟩,.string ⟨#[100,105,103,105,116]⟩,.string ⟨#[97,108,110,117,109]⟩,.string ⟨#[117,112,112,101,114]⟩,.string ⟨#[108,111,119,101,114]⟩,.string ⟨#[115,112,97,99,101]⟩,.string ⟨#[112,117,110,99,116]⟩] 9)) w.heap.size nmL:=b0
 have k0:Kp [] w (w.alloc (.cells #[.string ⟨#[97,108,112,104,97]⟩,.string ⟨#[100,105,103,105,116]⟩,.string ⟨#[97,108,110,117,109]⟩,.string ⟨#[117,112,112,101,114]⟩,.string ⟨#[108,111,119,101,114]⟩,.string ⟨#[115,112,97,99,101]⟩,.string ⟨#[112,117,110,99,116]⟩] 9)):=k0
 generalize w.alloc (.cells #[.string ⟨#[97,108,112,104,97]⟩,.string ⟨#[100,105,103,105,116]⟩,.string ⟨#[97,108,110,117,109]⟩,.string ⟨#[117,112,112,101,114]⟩,.string ⟨#[108,111,119,101,114]⟩,.string ⟨#[115,112,97,99,101]⟩,.string ⟨#[112,117,110,99,116]⟩] 9)=w0 at *
 generalize w.heap.size=cb at *
 have hP0:=h.keep k0 (by simp)
 have HH:=hid h
 clear h c1
 go_loopw [5,6] (fun fv iv wr=>∃ j f:Nat,j≤7∧iv=.int .i64 j∧fv=.int .i64 f∧f≤k+7∧Pr wr b q src k bad∧Kp [] w wr∧Bl wr cb nmL∧Hid (namedF s k (7 - j) j f=R)) (fun _ iv _=>7 - (intOf iv).toNat)
 case atStart=>exact ⟨0,k,by omega,rfl,rfl,by omega,hP0,k0,b0,hid HR.out.symm⟩
 case round=>
  obtain ⟨j,f,hj,rfl,rfl,hf,pr,kp,bl,hN⟩:=hrel
  by_cases hlt7:j < 7
  ·have cw:=bl.at_ j (.string (nmN j)) (by simp [nmL,hlt7])
   have hs5:=nmN_size j
   have hW7:=wdB_size j
   have hW7':(nmN j++(⟨#[58,93]⟩:ByteArray)).size=7:=hW7
   have c1:=pr.c1
   have c0:=pr.c0
   have hWl:=wdB_list j
   have hWl':(nmN j++(⟨#[58,93]⟩:ByteArray)).data.toList=nwd j:=hWl
   clear hWl hW7
   go_wp2_with fail
   generalize nmN j++(⟨#[58,93]⟩:ByteArray)=W at *
   obtain ⟨L,hL⟩:∃ L,L=lcpL s (nwd j):=⟨_,rfl⟩
   have hL7:L≤7:=by rw [hL,←nwd_len j];exact (lcpL_le s (nwd j)).1
   have HL:=hid (And.intro hL (And.intro hWl' (And.intro hlt7 hW7')))
   have HW:=hid (And.intro kp (And.intro hN (And.intro hf hj)))
   have HB:=hid bl
   clear hL hWl' hN cw c0 c1 hP0 b0 k0 kp hW7'
   go_loopw [8] (fun x wi=>∃ m:Nat,m≤L∧x=.int .i64 m∧Pr wi b q src k bad∧Kp [] wr wi) (fun x _=>7 - (intOf x).toNat)
   case atStart=>exact ⟨0,by omega,rfl,pr,Kp.refl _ _⟩
   case round=>
    obtain ⟨m,hm,rfl,pi,ki⟩:=hrel
    have c0:=pi.c0
    have c1:=pi.c1
    have step:=lcp_step s (nwd j) (m:=m) (by rw [←HL.out.1];exact hm)
    rw [←HL.out.1,HS.out,List.getElem?_drop,←HL.out.2.1] at step
    have hwm:IntKind.i64.wrap ((k:Int)+(m:Int))=((k+m:Nat):Int):=by rw [IntKind.wrap_i64];omega
    obtain ⟨km,hkm⟩:∃ km,km=k+m:=⟨_,rfl⟩
    rw [←hkm] at hwm step
    by_cases more:m+1≤L
    ·obtain ⟨a,e1,e2⟩:=step.1 more
     have l1:km < src.size:=by have:=(List.getElem?_eq_some_iff.1 e1).1;rw [Array.length_toList] at this;exact this
     have l2:m < W.size:=by have:=(List.getElem?_eq_some_iff.1 e2).1;rw [Array.length_toList] at this;exact this
     have v1:(src[km]'l1)=a:=by have:=(List.getElem?_eq_some_iff.1 e1).2;exact this
     have v2:(W[m]'l2)=a:=by have:=(List.getElem?_eq_some_iff.1 e2).2;exact this
     have q1:decide ((m:Int) < (W.size:Int))=true:=by simpa using l2
     have q2:decide ((km:Int) < (src.size:Int))=true:=by simpa using l1
     have q3:((((src[km]'l1).toNat:Int)) == (((W[m]'l2).toNat:Int)))=true:=by rw [v1,v2];simp
     have hm1:IntKind.i64.wrap ((m:Int)+1)=((m+1:Nat):Int):=wrap_i64_succ m (m+1) rfl (by omega)
     have HM:=hid (And.intro more (And.intro pi ki))
     have HV:=hid (And.intro l1 l2)
     clear step e1 e2 v1 v2 hm hkm pi ki
     go_wp2
     go_quiet (fail)
     go_wp2_with fail
     go_roundw
     ·obtain ⟨more,pi,ki⟩:=HM.out
      exact ⟨m+1,more,by go_num,pi.drewN _,ki.trans (Kp.drewN _ _ _)⟩
     ·have:=HM.out.1
      simp [intOf];omega
    ·have hmL:L=m:=by omega
     have hW7:=HL.out.2.2.2
     have KI:=hid (And.intro pi (And.intro ki (And.intro hmL hkm)))
     by_cases m7:m=7
     ·have q1:decide (m < W.size)=false:=by rw [hW7,m7];rfl
      have q5:((m:Int) == (W.size:Int))=true:=by rw [hW7,m7];rfl
      have hr:R=(j,k+7):=by
       have:=HW.out.2.1.out
       rw [show 7 - j=(6 - j)+1 by have:=HL.out.2.2.1;omega,namedF,if_pos (by rw [←HL.out.1,hmL,m7])] at this
       exact this.symm
      have cj:=(HB.out.keep ki (by simp)).at_ j (.string (nmN j)) (by simp [nmL,HL.out.2.2.1])
      have hj7:=HL.out.2.2.1
      have HRR:=hid (And.intro hr m7)
      clear step more hmL hkm pi ki hr hW7 m7 hm
      go_wp2
      go_quiet (fail)
      go_wp2_with fail
      go_quiet (fail)
      go_wp2_with fail
      go_ret2
      obtain ⟨pi,ki,hmL,hkm⟩:=KI.out
      obtain ⟨hr,m7⟩:=HRR.out
      refine ⟨?_,HW.out.1.trans (ki.trans ((Kp.drewN _ _ _).trans (Kp.drewN _ _ _)))⟩
      rw [hr,hkm,m7]
      simp [nmO,hj7]
     ·have hm7:m < 7:=by omega
      have q1:decide ((m:Int) < (W.size:Int))=true:=by rw [hW7];simp;omega
      have q5:((m:Int) == (W.size:Int))=false:=by rw [hW7,beq_eq_false_iff_ne];omega
      have hnx:namedF s k (7 - (j+1)) (j+1) (max f km)=R:=by
       have:=HW.out.2.1.out
       rw [show 7 - j=(7 - (j+1))+1 by have:=HL.out.2.2.1;omega,namedF,if_neg (by rw [←HL.out.1,hmL];exact m7),←HL.out.1,hmL,←hkm] at this
       exact this
      have HN:=hid hnx
      have hj1:IntKind.i64.wrap ((j:Int)+1)=((j+1:Nat):Int):=wrap_i64_succ j (j+1) rfl (by omega)
      have Fin:∀ (wx:World) (f':Nat),Kp [] wr wx→f'=max f km→∃ j_1 f_1:Nat,j_1≤7∧((j:Int)+1=(j_1:Int))∧f'=f_1∧f_1≤k+7∧Pr wx b q src k bad∧Kp [] w wx∧Bl wx cb nmL∧Hid (namedF s k (7 - j_1) j_1 f_1=R):=by
       intro wx f' kx hf'
       obtain ⟨pi,ki,hmL,hkm⟩:=KI.out
       refine ⟨j+1,max f km,by have:=HL.out.2.2.1;omega,by omega,hf',by have:=HW.out.2.2.1;omega,pi.keep kx (by simp),HW.out.1.trans (ki.trans kx),(HB.out.keep ki (by simp)).keep kx (by simp),HN⟩
      have FIN:=hid Fin
      have l2':m < W.size:=by omega
      have hgt:(f < km∧km=max f km)∨(¬ f < km∧f=max f km):=by omega
      have hex:(∃ l1:km < src.size,∃ l2:m < W.size,((((src[km]'l1).toNat:Int)) == (((W[m]'l2).toNat:Int)))=false)∨¬ km < src.size:=by
       by_cases l1:km < src.size
       ·have l2:m < W.size:=by omega
        refine .inl ⟨l1,l2,?_⟩
        rw [beq_eq_false_iff_ne]
        intro e
        exact more (step.2 ⟨src[km],List.getElem?_eq_getElem (by rw [Array.length_toList];exact l1),by
         rw [List.getElem?_eq_getElem (by rw [Array.length_toList];exact l2)]
         have e2:src[km]=W[m]:=UInt8.toNat.inj (by omega)
         rw [e2];rfl⟩)
       ·exact .inr l1
      clear step more hmL hkm pi ki hW7 m7 hm hnx HN Fin
      rcases hgt with ⟨g1,g2⟩ | ⟨g1,g2⟩
      all_goals
       have HG:=hid g2
       clear g2
       have g1':decide ((f:Int) < (km:Int))=decide (f < km):=by simp
       rcases hex with ⟨l1,l2,q3⟩ | l1
       ·have q2:decide ((km:Int) < (src.size:Int))=true:=by simpa using l1
        go_wp2
        go_quiet (fail)
        go_wp2_with fail
        go_roundw
        ·obtain ⟨j1,f1,x1,x2,x3,x4⟩:=FIN.out (wr.drewN nq) _ (Kp.drewN _ _ _) HG.out
         exact ⟨j1,f1,x1,by rw [x2],by rw [x3],x4⟩
        ·simp [intOf];omega
       ·have q2:decide (km < src.size)=false:=by simpa using l1
        go_wp2
        go_quiet (fail)
        go_wp2_with fail
        go_roundw
        ·obtain ⟨j1,f1,x1,x2,x3,x4⟩:=FIN.out (wr.drewN nq) _ (Kp.drewN _ _ _) HG.out
         exact ⟨j1,f1,x1,by rw [x2],by rw [x3],x4⟩
        ·simp [intOf];omega
  ·have j7:j=7:=by omega
   have hr:R=(7,f):=by
    have:=hN.out
    rw [j7] at this
    exact this.symm
   have HRR:=hid (And.intro hr kp)
   have q1:decide ((j:Int) < 7)=false:=by rw [j7];rfl
   have q1':¬ (j:Int) < 7:=by omega
   clear hr hN j7 hlt7 bl pr kp
   go_wp2_with fail
   go_ret2
   obtain ⟨hr,kp⟩:=HRR.out
   exact ⟨by rw [hr];simp [nmO],kp⟩
end
theorem wyC_congr {e:Nat} {z z':Zt} (h:∀ s,s < 20→z s=z' s):wyC (e,z)=wyC (e,z'):=by
 have h1:((List.range 10).map fun g=>Value.int .i64 (z (2 * g)))=(List.range 10).map fun g=>Value.int .i64 (z' (2 * g)):=
  List.map_congr_left fun g hg=>by rw [h (2 * g) (by have:=List.mem_range.1 hg;omega)]
 have h2:((List.range 10).map fun g=>Value.int .i64 (z (2 * g+1)))=(List.range 10).map fun g=>Value.int .i64 (z' (2 * g+1)):=
  List.map_congr_left fun g hg=>by rw [h (2 * g+1) (by have:=List.mem_range.1 hg;omega)]
 show _::(_++_)=_::(_++_)
 rw [h1,h2]
theorem set_range (f:Nat→Int) (c:Nat) (x:Int) (n:Nat):((List.range n).map fun g=>Value.int .i64 (f g)).set c (.int .i64 x)=(List.range n).map fun g=>Value.int .i64 (if g=c then x else f g):=by
 apply List.ext_getElem?
 intro i
 rw [List.getElem?_set]
 by_cases e:c=i
 ·subst e
  by_cases hc:c < n
  ·rw [if_pos rfl,if_pos (by simpa using hc),List.getElem?_map,List.getElem?_range hc];simp
  ·rw [if_pos rfl,if_neg (by simpa using hc),List.getElem?_eq_none (by simpa using hc)]
 ·rw [if_neg e]
  by_cases hi:i < n
  ·rw [List.getElem?_map,List.getElem?_map,List.getElem?_range hi]
   have:¬ i=c:=fun q=>e q.symm
   simp [this]
  ·rw [List.getElem?_eq_none (by simpa using hi),List.getElem?_eq_none (by simpa using hi)]
theorem wyC_from (e:Nat) (z:Zt) (x:Int) {g:Nat} (hg:g < 10):(wyC (e,z)).set (1+g) (.int .i64 x)=wyC (e,nu z (2 * g) x):=by
 rw [Nat.add_comm]
 show _::(List.set (_++_) g _)=_
 rw [List.set_append_left _ _ (by simpa using hg),set_range (fun g=>z (2 * g))]
 show _=_::(_++_)
 congr 2
 ·refine List.map_congr_left fun i hi=>?_
  unfold nu
  by_cases q:i=g
  ·simp [q]
  ·have:¬ 2 * i=2 * g:=by omega
   simp [q,this]
 ·refine List.map_congr_left fun i hi=>?_
  unfold nu
  have:¬ 2 * i+1=2 * g:=by omega
  simp [this]
theorem wyC_to (e:Nat) (z:Zt) (x:Int) {g:Nat} (hg:g < 10):(wyC (e,z)).set (11+g) (.int .i64 x)=wyC (e,nu z (2 * g+1) x):=by
 rw [show 11+g=(10+g)+1 by omega]
 show _::(List.set (_++_) (10+g) _)=_
 rw [List.set_append_right _ _ (by simp),List.length_map,List.length_range,Nat.add_sub_cancel_left,set_range (fun g=>z (2 * g+1))]
 show _=_::(_++_)
 congr 2
 ·refine List.map_congr_left fun i hi=>?_
  unfold nu
  have:¬ 2 * i=2 * g+1:=by omega
  simp [this]
 ·refine List.map_congr_left fun i hi=>?_
  unfold nu
  by_cases q:i=g
  ·simp [q]
  ·have:¬ 2 * i+1=2 * g+1:=by omega
   simp only [if_neg q,if_neg this]
theorem Tryz.szWayR:(Tryz.prog.info? 197).map (·.size)=some 21:=by kernel_rfl
abbrev Wb (w:World) (cb:Nat) (p:Nat×Zt):Prop:=Bl w cb (wyC p)
theorem Wb.from_ {w:World} {cb e:Nat} {z:Zt} (h:Wb w cb (e,z)) {g:Nat} (hg:g < 10) (x:Int):Wb (w.setCell ⟨cb,1+g,none⟩ (.int .i64 x)) cb (e,nu z (2 * g) x):=by
 have:=Bl.set h (1+g) (.int .i64 x) (by rw [wyC_len];omega)
 rwa [wyC_from e z x hg] at this
theorem Wb.to_ {w:World} {cb e:Nat} {z:Zt} (h:Wb w cb (e,z)) {g:Nat} (hg:g < 10) (x:Int):Wb (w.setCell ⟨cb,11+g,none⟩ (.int .i64 x)) cb (e,nu z (2 * g+1) x):=by
 have:=Bl.set h (11+g) (.int .i64 x) (by rw [wyC_len];omega)
 rwa [wyC_to e z x hg] at this
theorem Wb.end_ {w:World} {cb e:Nat} {z:Zt} (h:Wb w cb (e,z)) (e':Nat):Wb (w.setCell ⟨cb,0,none⟩ (.int .i64 (e':Nat))) cb (e',z):=
 Bl.set h 0 (.int .i64 (e':Nat)) (by rw [wyC_len];omega)
theorem Wb.get {w:World} {cb:Nat} {p:Nat×Zt} (h:Wb w cb p) {g:Nat} (hg:g < 10):w.cell? ⟨cb,1+g,none⟩=some (.int .i64 (p.2 (2 * g)))∧w.frozen? ⟨cb,1+g,none⟩=false∧w.cell? ⟨cb,11+g,none⟩=some (.int .i64 (p.2 (2 * g+1)))∧w.frozen? ⟨cb,11+g,none⟩=false:=
 ⟨h.at_ (1+g) _ ((wyC_at _).2.1 g hg),h.free _,h.at_ (11+g) _ ((wyC_at _).2.2 g hg),h.free _⟩
theorem Wb.congr {w:World} {cb e:Nat} {z z':Zt} (h:Wb w cb (e,z)) (hz:∀ s,s < 20→z s=z' s):Wb w cb (e,z'):=by
 have e:=wyC_congr (e:=e) hz
 show Bl w cb _
 rw [←e];exact h
def ngZ (c:Nat):Zt:=fun s=>if s / 2 < c then -1 else 0
