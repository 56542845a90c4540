import Derived.Test.YtnfglkdkmcocnaaGreatDoorR15
import Derived.Test.YtnfglkdkmcocnaaGreatDoorR18
set_option maxRecDepth 100000
set_option maxHeartbeats 16000000
set_option linter.all false
namespace Go.Proofs.YtnfglkdkmcocnaaGreatDoor
open Go.RowKit
def SmP (text:ByteArray) (p:Pi) (M:Nat→Rl):Prop:=Sm text p.len p.dd p.em M
section
variable {text:ByteArray} {A B C:Rl} {i tk j tk':Nat} {x x':Nat→Int}
theorem rl_ext (h:∀ i tk x j tk' x',A i tk x j tk' x' ↔ B i tk x j tk' x'):A=B:=by
 funext i tk x j tk' x'
 exact propext (h i tk x j tk' x')
theorem mSeq_assoc:mSeq (mSeq A B) C=mSeq A (mSeq B C):=rl_ext fun _ _ _ _ _ _=>
 ⟨fun ⟨_,_,_,⟨_,_,_,a,b⟩,c⟩=>⟨_,_,_,a,_,_,_,b,c⟩,fun ⟨_,_,_,a,_,_,_,b,c⟩=>⟨_,_,_,⟨_,_,_,a,b⟩,c⟩⟩
theorem mSeq_id:mSeq A mId=A:=rl_ext fun _ _ _ _ _ _=>
 ⟨fun ⟨_,_,_,a,h1,h2,h3⟩=>by rw [h1,h2,h3];exact a,fun a=>⟨_,_,_,a,rfl,rfl,rfl⟩⟩
theorem id_mSeq:mSeq mId A=A:=rl_ext fun _ _ _ _ _ _=>
 ⟨fun ⟨_,_,_,⟨h1,h2,h3⟩,a⟩=>by rw [h1,h2,h3] at a;exact a,fun a=>⟨_,_,_,⟨rfl,rfl,rfl⟩,a⟩⟩
def mRowF:List (Nat→Rl)→Nat→Rl
 | [],_=>mId
 | m::ms,d=>mSeq (m d) (mRowF ms d)
theorem mRow_snoc (m:Nat→Rl) (d:Nat):∀ l:List (Nat→Rl),mRow (l++[m]) d=mSeq (m d) (mRow l d)
 | []=>by show mSeq mId (m d)=mSeq (m d) mId;rw [mSeq_id,id_mSeq]
 | n::l=>by
  show mSeq (mRow (l++[m]) d) (n d)=mSeq (m d) (mSeq (mRow l d) (n d))
  rw [mRow_snoc m d l,mSeq_assoc]
theorem mRow_rev (d:Nat):∀ l:List (Nat→Rl),mRow l.reverse d=mRowF l d
 | []=>rfl
 | m::l=>by rw [List.reverse_cons,mRow_snoc,mRow_rev d l];rfl
theorem lenL_rev (l:List It):lenL l.reverse=lenL l:=by unfold lenL;rw [List.map_reverse,List.sum_reverse]
theorem ddL_rev:∀ l:List It,ddL l.reverse=ddL l
 | []=>rfl
 | p::l=>by
  rw [List.reverse_cons,ddL_append,ddL_rev l]
  show max (ddL l) (max p.dd 0)=max p.dd (ddL l)
  omega
theorem smP_one (m:Nat→Bool):SmP text (piOne m) (mOne text m):=sm_one m
theorem smP_edge (k:Nat) (hk:k=1∨k=2):SmP text (piEdge k) (fun _=>mEdge text k):=sm_edge k hk
theorem smP_group {g:Nat} {p:Pi} {M:Nat→Rl} (h:SmP text p M) (hg0:1≤g) (hg:g≤9):SmP text (piGroup g p) (fun d=>mGroup g (M d)):=sm_group (len:=p.len) h hg0 hg
theorem smP_rep {p:Pi} {M:Nat→Rl} (h:SmP text p M) (least:Nat) (most:Option Nat) (hok:∀ m,most=some m→least≤m):SmP text (piRep p least most) (mRep M least most):=by
 have q:=sm_rep (len:=p.len) h least most hok
 cases most with
 | none=>exact q
 | some m=>exact q
abbrev Mn:=Pi×(Nat→Rl)
theorem smP_row (l:List Mn) (h:∀ p∈l,SmP text p.1 p.2):SmP text (piRow (l.map (·.1))) (mRowF (l.map (·.2))):=by
 have q:=sm_row (text:=text) ((l.map fun p=>(p.1.it,p.2)).reverse) (fun p hp=>by
  obtain ⟨r,hr,rfl⟩:=List.mem_map.1 (List.mem_reverse.1 hp)
  exact h r hr)
 rw [List.map_reverse,List.map_reverse,lenL_rev,ddL_rev,List.map_map,List.map_map] at q
 have e2:mRow (l.map ((·.2) ∘ fun p:Mn=>(p.1.it,p.2))).reverse=mRowF (l.map (·.2)):=by
  funext d
  rw [mRow_rev]
  rfl
 rw [e2] at q
 unfold SmP piRow rowIt It.pi
 rw [List.map_map]
 exact q
def mAny (l:List (Nat→Rl)) (d:Nat):Rl:=fun i tk x j tk' x'=>∃ m∈l,m d i tk x j tk' x'
theorem mBr_any (d:Nat):∀ (l:List (Nat→Rl)) (B:Rl),mBr l B d i tk x j tk' x' ↔ mAny l d i tk x j tk' x'∨B i tk x j tk' x'
 | [],B=>⟨fun h=>.inr h,fun h=>by
  rcases h with ⟨_,hm,_⟩ | h
  ·cases hm
  ·exact h⟩
 | m::l,B=>by
  show mBr l (mOr (m d) B) d i tk x j tk' x' ↔ _
  rw [mBr_any d l]
  constructor
  ·rintro (⟨m',hm,h⟩ | h | h)
   ·exact .inl ⟨m',by simp [hm],h⟩
   ·exact .inl ⟨m,by simp,h⟩
   ·exact .inr h
  ·rintro (⟨m',hm,h⟩ | h)
   ·rcases List.mem_cons.1 hm with rfl | hm
    ·exact .inr (.inl h)
    ·exact .inl ⟨m',hm,h⟩
   ·exact .inr (.inr h)
theorem mBranches_any {l:List (Nat→Rl)} (hl:l≠[]) (d:Nat):mBranches l d=mAny l d:=by
 cases l with
 | nil=>exact absurd rfl hl
 | cons m l=>
  refine rl_ext fun i tk x j tk' x'=>?_
  show mBr l (m d) d i tk x j tk' x' ↔ _
  rw [mBr_any]
  constructor
  ·rintro (⟨m',hm,h⟩ | h)
   ·exact ⟨m',by simp [hm],h⟩
   ·exact ⟨m,by simp,h⟩
  ·rintro ⟨m',hm,h⟩
   rcases List.mem_cons.1 hm with rfl | hm
   ·exact .inr h
   ·exact .inl ⟨m',hm,h⟩
theorem mAny_rev (l:List (Nat→Rl)) (d:Nat):mAny l.reverse d=mAny l d:=rl_ext fun _ _ _ _ _ _=>
 ⟨fun ⟨m,hm,h⟩=>⟨m,List.mem_reverse.1 hm,h⟩,fun ⟨m,hm,h⟩=>⟨m,List.mem_reverse.2 hm,h⟩⟩
theorem smP_branches (l:List Mn) (hl:l≠[]) (h:∀ p∈l,SmP text p.1 p.2):SmP text (piBranches (l.map (·.1))) (mAny (l.map (·.2))):=by
 have key:∀ L:List (It×(Nat→Rl)),L≠[]→(∀ p∈L,Sm text p.1.len p.1.dd p.1.em p.2)→Sm text (lenL (L.map (·.1))+(L.length - 1)) (ddL (L.map (·.1))) (emBranches (L.map (·.1))) (mBranches (L.map (·.2))):=fun L hL hh=>by
  cases L with
  | nil=>exact absurd rfl hL
  | cons p L=>exact sm_branches p L hh
 have q:=key ((l.map fun p=>(p.1.it,p.2)).reverse) (by simpa using hl) (fun p hp=>by
  obtain ⟨r,hr,rfl⟩:=List.mem_map.1 (List.mem_reverse.1 hp)
  exact h r hr)
 rw [List.map_reverse,List.map_reverse,lenL_rev,ddL_rev,List.map_map,List.map_map,List.length_reverse,List.length_map] at q
 have e2:mBranches (l.map ((·.2) ∘ fun p:Mn=>(p.1.it,p.2))).reverse=mAny (l.map (·.2)):=by
  funext d
  rw [mBranches_any (by simpa using hl),mAny_rev]
  rfl
 rw [e2] at q
 unfold SmP piBranches branchesIt It.pi
 rw [List.map_map,List.length_map]
 exact q
end
section
variable {w w' w1:World} {B b q:Nat} {src:ByteArray} {k g:Nat} {bad:Int} {v v' v1:Value} {N:List Nw}
theorem ndC_at (x:Nv) (kv:Value):(ndC x kv)[0]? = some (.int .i64 x.kind)∧(∀ i,i < 256→(ndC x kv)[1+i]? = some (.bool (x.set i)))∧(ndC x kv)[257]? = some (.int .i64 x.num)∧(ndC x kv)[258]? = some (.int .i64 x.least)∧(ndC x kv)[259]? = some (.int .i64 x.most)∧(ndC x kv)[260]? = some kv∧(ndC x kv)[261]? = some (.int .i64 x.size):=by
 have e:∀ j,(ndC x kv)[j+1]? = (((List.range 256).map fun i=>Value.bool (x.set i))++[.int .i64 x.num,.int .i64 x.least,.int .i64 x.most,kv,.int .i64 x.size])[j]?:=fun j=>by rw [ndC,List.getElem?_cons_succ]
 have r:∀ j,256≤j→(((List.range 256).map fun i=>Value.bool (x.set i))++[.int .i64 x.num,.int .i64 x.least,.int .i64 x.most,kv,.int .i64 x.size])[j]? = [.int .i64 x.num,.int .i64 x.least,.int .i64 x.most,kv,.int .i64 x.size][j - 256]?:=fun j hj=>by
  rw [List.getElem?_append_right (by simpa using hj)];simp
 refine ⟨rfl,fun i hi=>?_,?_,?_,?_,?_,?_⟩
 ·rw [Nat.add_comm,e,List.getElem?_append_left (by simpa using hi),List.getElem?_map,List.getElem?_range hi];rfl
 ·rw [e 256,r 256 (by omega)];rfl
 ·rw [e 257,r 257 (by omega)];rfl
 ·rw [e 258,r 258 (by omega)];rfl
 ·rw [e 259,r 259 (by omega)];rfl
 ·rw [e 260,r 260 (by omega)];rfl
theorem Ps.nodes (h:Ps w B b q src k g bad v N) {i:Nat} {p:Nw} (hi:N[i]? = some p):∃ gb c,v=.slice (some ⟨gb,0,none⟩) N.length c∧i < N.length∧N.length≤c∧∀ j u,j < 262→(ndC p.1 p.2)[j]? = some u→w.cell? ⟨gb,i * 262+j,none⟩=some u:=by
 have hlt:=(List.getElem?_eq_some_iff.1 hi).1
 rcases h.own.2 with ⟨_,q2⟩ | ⟨gb,c,cur,q1,_,_,q5,_⟩
 ·omega
 ·refine ⟨gb,c,q1,hlt,q5,fun j u hj hu=>?_⟩
  have:=h.own.cells (g:=gb) (by rw [q1];rfl) (i * 262+j) u (by rw [flatN_at N i p hi j hj];exact hu)
  rwa [Addr.add_mid,Nat.zero_add] at this
theorem sizeOf_any (h:Ps w B b q src k g bad v N) {i:Nat} {p:Nw} (hi:N[i]? = some p) (hn:N.length≤100000):Calls Tryz.prog 69 #[.pointer (some ⟨b,0,none⟩),.int .i64 i] w fun e w'=>e=.returned (.int .i64 p.1.size)∧w'=w:=by
 obtain ⟨gb,c,rfl,hlt,hc,hcell⟩:=h.nodes hi
 have cz:=hcell 261 _ (by omega) (ndC_at p.1 p.2).2.2.2.2.2.2
 have c3:=h.pr.c3
 have q0:=h.q0
 clear hcell h
 go_enter Tryz.func69,Tryz.ntmps69
 go_wp2_with fail
 go_ret
 exact ⟨rfl,rfl⟩
end
theorem idx_mem:∀ (l:List UInt8) (c:UInt8),Lib.indexByte l c < 0 ↔ c∉l
 | [],c=>by simp [Lib.indexByte]
 | b::l,c=>by
  have ih:=idx_mem l c
  have hg:=Lib.indexByte_ge l c
  unfold Lib.indexByte
  by_cases e:b=c
  ·simp [e]
  ·have e':¬ c=b:=fun q=>e q.symm
   by_cases q:Lib.indexByte l c = -1
   ·simp [e,e',q];exact ih.1 (by omega)
   ·simp only [beq_iff_eq,e,q,if_false,List.mem_cons,e',false_or]
    constructor
    ·intro z;omega
    ·intro z;exact absurd (ih.2 z) (by omega)
theorem mem_idx (c:UInt8) (of:ByteArray):mem (c.toNat:Int) of = !decide (Lib.indexByte of.data.toList c < 0):=by
 rw [Bool.eq_iff_iff]
 unfold mem
 simp only [List.any_eq_true,beq_iff_eq,Bool.not_eq_true',decide_eq_false_iff_not,idx_mem,Decidable.not_not]
 constructor
 ·rintro ⟨x,h1,h2⟩
  have:x=c:=UInt8.toNat.inj (by omega)
  exact this ▸ h1
 ·intro h
  exact ⟨c,h,rfl⟩
theorem mem_end (of:ByteArray):mem (-1) of=false:=by
 unfold mem
 rw [List.any_eq_false]
 intro x _
 simp
section
variable {w w' w1:World} {B b q:Nat} {src:ByteArray} {k g:Nat} {bad:Int} {v v' v1:Value} {N:List Nw}
theorem pk_lt (h:k < src.size):pk src k=((src[k]'h).toNat:Int):=by unfold pk;rw [dif_pos h]
theorem pk_end (h:¬ k < src.size):pk src k = -1:=by unfold pk;rw [dif_neg h]
theorem saw_pk {x:Nat}:saw src k (x:Int)=(pk src k == (x:Int)):=(pk_saw src k (by omega)).symm
theorem peekR_v (h:Pr w b q src k bad) {c:Int} (hp:pk src k=c):Calls Tryz.prog 212 #[.pointer (some ⟨b,0,none⟩)] w fun e w'=>e=.returned (.int .i64 c)∧∃ n,w'=w.drewN n:=by
 subst hp;exact peekR_any h
theorem member_v {c:Int} {of:ByteArray} (hof:of.size≤1000) {x:Bool} (hx:mem c of=x):Calls Tryz.prog 129 #[.int .i64 c,.string of] w fun e w'=>e=.returned (.bool x)∧w'=w:=by
 subst hx;exact member_any c of hof
theorem escaped_ok {of:ByteArray} {l x:Nat} (h:Pr w b q src k bad) (hof:of.size≤1000) (he:escP src of k=.ok (l,x)) :
  Calls Tryz.prog 247 #[.pointer (some ⟨b,0,none⟩),.string of] w fun e w'=>e=.returned (.int .u8 x)∧Pr w' b q src l bad∧Kp [b] w w':=by
 have hk:k < src.size:=by
  unfold escP at he
  split at he
  ·exact saw_lt (by assumption)
  ·split at he
   ·exact saw_lt (by assumption)
   ·split at he
    ·assumption
    ·cases he
 have hsm:=h.small
 have c1:=h.c1
 have f1:=h.free 1
 have hw:IntKind.i64.wrap ((k:Int)+1)=((k+1:Nat):Int):=wrap_i64_succ k (k+1) rfl (by omega)
 obtain ⟨z,hz⟩:∃ z,z=pk src k:=⟨_,rfl⟩
 have hzc:z=((src[k]'hk).toNat:Int):=by rw [hz,pk_lt hk]
 have e110:saw src k 110=(z == 110):=by rw [show (110:Int)=((110:Nat):Int) from rfl,saw_pk,hz]
 have e116:saw src k 116=(z == 116):=by rw [show (116:Int)=((116:Nat):Int) from rfl,saw_pk,hz]
 have hm:mem z of = !decide (Lib.indexByte of.data.toList (src[k]'hk) < 0):=by rw [hzc,mem_idx]
 have HP:=hid (And.intro h (And.intro hk hz.symm))
 have KX:∀ n,Pr ((w.drewN n).setCell ⟨b,1,none⟩ (.int .i64 ((k+1:Nat):Int))) b q src (k+1) bad∧Kp [b] w ((w.drewN n).setCell ⟨b,1,none⟩ (.int .i64 ((k+1:Nat):Int))):=fun n=>⟨(h.drewN n).goto _ (by omega),(Kp.drewN _ _ _).trans (Kp.setCell _ _ (by simp))⟩
 have HK:=hid KX
 have HZ:=hid hzc
 clear hsm h KX hz hzc
 unfold escP at he
 rw [e110,e116] at he
 clear e110 e116
 cases g1:(z == 110) with
 | true=>
  rw [g1,if_pos rfl] at he
  cases he
  have g1':z=110:=by simpa using g1
  subst g1'
  clear g1
  go_enter Tryz.func247,Tryz.ntmps247
  go_wp2_with fail
  refine (peekR_v HP.out.1 HP.out.2.2).mono ?_
  rintro e w1 ⟨rfl,n,rfl⟩
  go_wp2_with fail
  refine (member_any 110 of hof).mono ?_
  rintro e w1 ⟨rfl,rfl⟩
  go_wp2_with fail
  go_ret
  exact ⟨rfl,HK.out n⟩
 | false=>
  rw [g1,if_neg (by simp)] at he
  cases g2:(z == 116) with
  | true=>
   rw [g2,if_pos rfl] at he
   cases he
   have g2':z=116:=by simpa using g2
   subst g2'
   clear g1 g2
   go_enter Tryz.func247,Tryz.ntmps247
   go_wp2_with fail
   refine (peekR_v HP.out.1 HP.out.2.2).mono ?_
   rintro e w1 ⟨rfl,n,rfl⟩
   go_wp2_with fail
   refine (member_any 116 of hof).mono ?_
   rintro e w1 ⟨rfl,rfl⟩
   go_wp2_with fail
   go_ret
   exact ⟨rfl,HK.out n⟩
  | false=>
   rw [g2,if_neg (by simp),dif_pos hk] at he
   split at he
   ·cases he
   ·rename_i hx
    cases he
    have hm':mem z of=true:=by rw [hm];simpa using hx
    have hwc:IntKind.u8.wrap z=((src[k]'hk).toNat:Int):=by
     have:=(src[k]'hk).toNat_lt
     rw [HZ.out,IntKind.wrap_u8];omega
    have n1:¬ z=110:=by simpa using g1
    have n2:¬ z=116:=by simpa using g2
    clear hx hm g1 g2
    go_enter Tryz.func247,Tryz.ntmps247
    go_wp2_with fail
    refine (peekR_v HP.out.1 HP.out.2.2).mono ?_
    rintro e w1 ⟨rfl,n,rfl⟩
    go_wp2_with fail
    refine (member_v hof hm').mono ?_
    rintro e w1 ⟨rfl,rfl⟩
    go_wp2_with fail
    go_ret
    exact ⟨rfl,HK.out n⟩
theorem escaped_err {of:ByteArray} {l:Nat} (h:Pr w b q src k bad) (hbad:bad < 0) (hof:of.size≤1000) (he:escP src of k=.error l) :
  Calls Tryz.prog 247 #[.pointer (some ⟨b,0,none⟩),.string of] w fun e w'=>e=.returned (.int .u8 0)∧Pr w' b q src k l∧Kp [b] w w':=by
 have c1:=h.c1
 obtain ⟨z,hz⟩:∃ z,z=pk src k:=⟨_,rfl⟩
 have e110:saw src k 110=(z == 110):=by rw [show (110:Int)=((110:Nat):Int) from rfl,saw_pk,hz]
 have e116:saw src k 116=(z == 116):=by rw [show (116:Int)=((116:Nat):Int) from rfl,saw_pk,hz]
 have H:l=k∧(z == 110)=false∧(z == 116)=false∧mem z of=false:=by
  unfold escP at he
  rw [e110,e116] at he
  split at he
  ·cases he
  ·rename_i n1
   split at he
   ·cases he
   ·rename_i n2
    split at he
    ·rename_i hk
     split at he
     ·rename_i hx
      cases he
      exact ⟨rfl,by simpa using n1,by simpa using n2,by rw [hz,pk_lt hk,mem_idx,decide_eq_true hx];rfl⟩
     ·cases he
    ·rename_i hk
     cases he
     exact ⟨rfl,by simpa using n1,by simpa using n2,by rw [hz,pk_end hk];exact mem_end of⟩
 obtain ⟨rfl,g1,g2,hm⟩:=H
 have n1:(z != 110)=true:=by simpa using g1
 have n2:(z != 116)=true:=by simpa using g2
 clear g1 g2
 have HP:=hid (And.intro h (And.intro hbad hz.symm))
 clear h hbad hz he e110 e116
 go_enter Tryz.func247,Tryz.ntmps247
 go_wp2_with fail
 refine (peekR_v HP.out.1 HP.out.2.2).mono ?_
 rintro e w1 ⟨rfl,n,rfl⟩
 go_wp2_with fail
 refine (member_v hof hm).mono ?_
 rintro e w1 ⟨rfl,rfl⟩
 go_wp2_with fail
 refine (failR_first (HP.out.1.drewN n) l HP.out.2.1).mono ?_
 rintro e w1 ⟨rfl,p1,k1⟩
 go_wp2_with fail
 go_ret
 exact ⟨rfl,p1,(Kp.drewN _ _ _).trans k1⟩
end
theorem newVarR {P:Program} {ops:Array Oper} {rest:List Oper} {op:Oper} {a:Act} {w1:World} {Q:Exit→Act→World→Prop} (hgd:op.guard=none) (ty:TypeId) (x y:Operand) (ho:op.op=.store ty x y) (zs:List Value) (T:TypeId) (cells:List Value)
  (hx:a.eval x=.pointer (some ⟨w1.heap.size,0,none⟩)) (hy:a.eval y=.agg cells.toArray) (hl:cells.length=zs.length) (hi:(P.info? ty).map (·.size)=some cells.length) (h1:∀ u∈cells,u.oneCell'=true)
  (h:∀ w2,Bl w2 w1.heap.size cells→Kp [] w1 w2→wpList P ops Q rest (a.put op.dst undef) w2):wpList P ops Q (op::rest) a (w1.alloc (.cells zs.toArray T)):=by
 have B:=Bl.alloc w1 zs T
 refine wpList_store_mid hgd ty x y ho w1.heap.size 0 cells.toArray hx hy (fun j hj=>?_) (by simpa using hi) (all_oneCell_toArray h1) (h _ ?_ ?_)
 ·have hj':j < zs.length:=by rw [←hl];simpa using hj
  rw [Nat.zero_add,B.at_ j _ (List.getElem?_eq_getElem hj')]
  exact ⟨rfl,B.free j⟩
 ·exact B.put hl
 ·exact (((Kp.alloc _ _ _).trans (kp_setCells (S:=[w1.heap.size]) (by simp) _ _ _)).own (Nat.le_refl _))
abbrev setN (m:Nat→Bool):Nv:=⟨1,m,0,0,0,[],1⟩
abbrev noK:Value:=.slice none 0 0
def upd (f:Nat→Bool) (c:Nat) (y:Bool):Nat→Bool:=fun j=>if j=c then y else f j
theorem upd_more (f:Nat→Bool) (c:Nat):upd f c true=more f c:=by
 funext j
 unfold upd more
 by_cases e:j=c
 ·simp [e]
 ·have:(j == c)=false:=by rw [beq_eq_false_iff_ne];exact e
  simp [e]
theorem ndC_set (x:Nv) (kv:Value) (f:Nat→Bool) (y:Bool) {c:Nat} (hc:c < 256):(ndC { x with set:=f } kv).set (1+c) (.bool y)=ndC { x with set:=upd f c y } kv:=by
 apply List.ext_getElem?
 intro i
 rw [List.getElem?_set]
 have l1:=ndC_len { x with set:=f } kv
 have hA:=ndC_at { x with set:=f } kv
 have hB:=ndC_at { x with set:=upd f c y } kv
 by_cases e:1+c=i
 ·subst e
  rw [if_pos rfl,if_pos (by omega),hB.2.1 c hc]
  simp [upd]
 ·rw [if_neg e]
  by_cases h1:i=0
  ·subst h1;rfl
  ·by_cases h2:i < 257
   ·obtain ⟨j,rfl⟩:∃ j,i=1+j:=⟨i - 1,by omega⟩
    rw [hA.2.1 j (by omega),hB.2.1 j (by omega)]
    have:¬ j=c:=by omega
    simp [upd,this]
   ·have:i=257∨i=258∨i=259∨i=260∨i=261∨262≤i:=by omega
    rcases this with rfl | rfl | rfl | rfl | rfl | h3
    ·rw [hA.2.2.1,hB.2.2.1]
    ·rw [hA.2.2.2.1,hB.2.2.2.1]
    ·rw [hA.2.2.2.2.1,hB.2.2.2.2.1]
    ·rw [hA.2.2.2.2.2.1,hB.2.2.2.2.2.1]
    ·rw [hA.2.2.2.2.2.2,hB.2.2.2.2.2.2]
    ·rw [List.getElem?_eq_none (by rw [ndC_len];exact h3),List.getElem?_eq_none (by rw [ndC_len];exact h3)]
abbrev Sb (w:World) (cb:Nat) (m:Nat→Bool):Prop:=Bl w cb (ndC (setN m) noK)
theorem Sb.put {w:World} {cb:Nat} {m:Nat→Bool} (h:Sb w cb m) {c:Nat} (hc:c < 256) (y:Bool):Sb (w.setCell ⟨cb,1+c,none⟩ (.bool y)) cb (upd m c y):=by
 have:=Bl.set h (1+c) (.bool y) (by rw [ndC_len];omega)
 rwa [ndC_set (setN m) noK m y hc] at this
theorem Sb.get {w:World} {cb:Nat} {m:Nat→Bool} (h:Sb w cb m) {c:Nat} (hc:c < 256):w.cell? ⟨cb,1+c,none⟩=some (.bool (m c))∧w.frozen? ⟨cb,1+c,none⟩=false:=⟨h.at_ (1+c) _ ((ndC_at _ _).2.1 c hc),h.free _⟩
theorem zero_node:∀ w,(Instr.build 192 #[(0,.int .i64 1),(6,.int .i64 1)]).run Tryz.prog w=.ok (.agg (ndC (setN noBytes) noK).toArray) w:=fun w=>run_build w _ _ _ (by kernel_rfl)
section
variable {w w' w1:World} {B b q:Nat} {src:ByteArray} {k g:Nat} {bad:Int} {v v' v1:Value} {N:List Nw}
theorem one_any (h:Ps w B b q src k g bad v N) {c:Nat} (hc:c < 256) (hn:N.length≤100000) :
  Calls Tryz.prog 246 #[.pointer (some ⟨b,0,none⟩),.int .u8 c] w fun e w'=>e=.returned (.int .i64 N.length)∧∃ v',Ps w' B b q src k g bad v' (N++[(setN (more noBytes c),noK)])∧Pk b q v v' w w':=by
 have zn:=zero_node
 obtain ⟨z0,hz0⟩:∃ z0:List Value,z0=ndC (setN noBytes) noK:=⟨_,rfl⟩
 have hzl:z0.length=262:=by rw [hz0];exact ndC_len _ _
 have hz1:∀ u∈z0,u.oneCell'=true:=by rw [hz0];exact ndC_one _ rfl
 rw [←hz0] at zn
 have HZ:=hid hz0
 clear hz0
 go_enter Tryz.func246,Tryz.ntmps246
 go_upto_region 2 with (refine newVarR (w1:=w) rfl 192 (.tmp 5) (.tmp 6) rfl Tryz.zeroCells192.toList 192 z0 rfl (by rw [HZ.out];kernel_rfl) (by rw [hzl];kernel_rfl) (by rw [hzl];exact Tryz.szNodeR) hz1 ?_;intro w2 b2 k2)
 obtain ⟨cb,hcb⟩:∃ cb,cb=w.heap.size:=⟨_,rfl⟩
 rw [←hcb] at b2 ⊢
 have hz:z0[1+c]? = some (.bool false):=by rw [HZ.out,(ndC_at _ _).2.1 c hc];rfl
 have e1:=b2.at_ (1+c) _ hz
 have f1:=b2.free (1+c)
 have b3:=b2.set (1+c) (.bool true) (by rw [hzl];omega)
 have es:z0.set (1+c) (.bool true)=ndC (setN (more noBytes c)) noK:=by rw [HZ.out];rw [←upd_more];exact ndC_set (setN noBytes) noK noBytes true hc
 rw [es] at b3
 have k3:Kp [] w (w2.setCell ⟨cb,1+c,none⟩ (.bool true)):=(((k2.mono (by simp)).trans (Kp.setCell (S:=[cb]) w2 (p:=⟨cb,1+c,none⟩) (.bool true) (by simp))).own (Nat.le_of_eq hcb.symm))
 have RG:=hid b3.range
 have P3:=hid (h.keep k3)
 have K3:=hid k3
 have hcI:(c:Int) < 256:=by omega
 have hc0:(0:Int)≤c:=by omega
 clear b2 k2 hz b3 es k3 h hcb HZ hz1 hzl
 go_wp2_with (first | (refine wpList_load_mid rfl 192 (.tmp 5) rfl cb 0 rfl (ndC (setN (more noBytes c)) noK) _ RG.out Tryz.underlying192 rfl (by rw [ndC_len];exact Tryz.szNodeR) ?_) | fail)
 refine (node_push P3.out (setN (more noBytes c)) (Kd.nil _ _ _) hn).mono ?_
 rintro e w4 ⟨rfl,v',p4,k4⟩
 have P4:=hid (And.intro p4 (Pk.trans (Pk.of_kp (b:=b) (q:=q) (v:=v) K3.out (by simp)) k4))
 clear p4 k4
 go_wp2_with fail
 go_ret
 exact ⟨rfl,v',P4.out⟩
end
