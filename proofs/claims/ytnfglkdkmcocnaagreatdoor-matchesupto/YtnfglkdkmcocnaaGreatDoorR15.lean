import Derived.Test.YtnfglkdkmcocnaaGreatDoorR14
set_option maxRecDepth 100000
set_option maxHeartbeats 16000000
set_option linter.all false
namespace Go.Proofs.YtnfglkdkmcocnaaGreatDoor
open Go.RowKit
abbrev Rt:=Nat→List (Nat×Zt)
def neg:Zt:=fun _=>-1
def mix (x r:Zt):Zt:=fun s=>if 0≤r (2 * (s / 2)) then r s else x s
theorem mix_neg (x:Zt):mix x neg=x:=by funext s;simp [mix,neg]
theorem mix_mix (x r q:Zt):mix (mix x r) q=mix x (mix r q):=by
 funext s
 unfold mix
 have e:2 * (2 * (s / 2) / 2)=2 * (s / 2):=by omega
 rw [e]
 repeat' split
 all_goals first | rfl | omega
def vId:Rt:=fun i=>[(i,neg)]
def vSeq (V U:Rt):Rt:=fun i=>(V i).flatMap fun p=>(U p.1).map fun q=>(q.1,mix p.2 q.2)
def vOr (V U:Rt):Rt:=fun i=>V i++U i
def vOne (text:ByteArray) (m:Nat→Bool):Rt:=fun i=>if h:i < text.size then (if m (text[i]'h).toNat=true then [(i+1,neg)] else []) else []
def vEdge (text:ByteArray) (k:Nat):Rt:=fun i=>if (k=1∧i=0)∨(k=2∧i=text.size) then [(i,neg)] else []
def vGroup (g:Nat) (V:Rt):Rt:=fun i=>(V i).map fun p=>(p.1,nu (nu p.2 (2 * g) i) (2 * g+1) p.1)
def vRow:List Rt→Rt
 | []=>vId
 | a::l=>vSeq a (vRow l)
def vAny:List Rt→Rt
 | []=>fun _=>[]
 | a::l=>vOr a (vAny l)
def vTimes (V:Rt):Nat→Rt→Rt
 | 0,U=>U
 | k+1,U=>vSeq V (vTimes V k U)
def vUp (V:Rt):Nat→Rt
 | 0=>vId
 | k+1=>vOr (vSeq V (vUp V k)) vId
def vTurns (V:Rt):Nat→Rt
 | 0,i=>[(i,neg)]
 | k+1,i=>(((V i).filter fun p=>decide (p.1≠i)).flatMap fun p=>(vTurns V k p.1).map fun q=>(q.1,mix p.2 q.2))++[(i,neg)]
def vStar (text:ByteArray) (V:Rt):Rt:=fun i=>vTurns V (text.size - i) i
def vRep (text:ByteArray) (V:Rt) (least:Nat):Option Nat→Rt
 | some most=>vTimes V least (vUp V (most - least))
 | none=>vTimes V least (vStar text V)
structure RelV (text:ByteArray) (G:Nat→Prop) (W:Wt) (V:Rt):Prop where
 eq:∀ i x,i≤text.size→W i x=(V i).map fun p=>(p.1,mix x p.2)
 mn:∀ i p,i≤text.size→p∈V i→i≤p.1∧p.1≤text.size
 nt:∀ i p,i≤text.size→p∈V i→∀ g,(0≤p.2 (2 * g)∧G g)∨(p.2 (2 * g) = -1∧p.2 (2 * g+1) = -1)
section
variable {text:ByteArray} {G H:Nat→Prop} {W A B:Wt} {V U:Rt}
theorem RelV.imp (h:RelV text G W V) (hG:∀ g,G g→H g):RelV text H W V:=⟨h.eq,h.mn,fun i p hi hp g=>(h.nt i p hi hp g).imp (fun q=>⟨q.1,hG g q.2⟩) fun q=>q⟩
theorem RelV.id:RelV text G wId vId:=⟨fun i x _=>by simp [wId,vId,mix_neg],fun i p hi hp=>by rw [List.mem_singleton.1 hp];exact ⟨Nat.le_refl _,hi⟩,fun i p _ hp g=>by rw [List.mem_singleton.1 hp];exact .inr ⟨rfl,rfl⟩⟩
theorem RelV.seq (h:RelV text G A V) (h2:RelV text G B U):RelV text G (wSeq A B) (vSeq V U):=by
 refine ⟨fun i x hi=>?_,fun i p hi hp=>?_,fun i p hi hp g=>?_⟩
 ·unfold wSeq vSeq
  rw [h.eq i x hi,List.flatMap_map,List.map_flatMap]
  refine flatMap_same fun p hp=>?_
  rw [h2.eq _ _ (h.mn i p hi hp).2,List.map_map]
  refine List.map_congr_left fun q hq=>?_
  simp [mix_mix]
 ·obtain ⟨p1,h1,hp⟩:=List.mem_flatMap.1 hp
  obtain ⟨q,hq,rfl⟩:=List.mem_map.1 hp
  have a:=h.mn i p1 hi h1
  have b:=h2.mn _ q a.2 hq
  exact ⟨by show i≤q.1;omega,b.2⟩
 ·obtain ⟨p1,h1,hp⟩:=List.mem_flatMap.1 hp
  obtain ⟨q,hq,rfl⟩:=List.mem_map.1 hp
  have a:=h.nt i p1 hi h1 g
  have b:=h2.nt _ q (h.mn i p1 hi h1).2 hq g
  have e1:2 * (2 * g / 2)=2 * g:=by omega
  have e2:2 * ((2 * g+1) / 2)=2 * g:=by omega
  dsimp only [mix]
  rw [e1,e2]
  rcases b with b | b
  ·rw [if_pos b.1,if_pos b.1];exact .inl b
  ·rw [if_neg (by omega),if_neg (by omega)];exact a
theorem RelV.or (h:RelV text G A V) (h2:RelV text G B U):RelV text G (wOr A B) (vOr V U):=
 ⟨fun i x hi=>by unfold wOr vOr;rw [h.eq i x hi,h2.eq i x hi,List.map_append],fun i p hi hp=>(List.mem_append.1 hp).elim (h.mn i p hi) (h2.mn i p hi),fun i p hi hp=>(List.mem_append.1 hp).elim (h.nt i p hi) (h2.nt i p hi)⟩
theorem RelV.one (m:Nat→Bool):RelV text G (wOne text m) (vOne text m):=by
 refine ⟨fun i x hi=>?_,fun i p hi hp=>?_,fun i p hi hp g=>?_⟩
 ·unfold wOne vOne
  repeat' split
  all_goals simp [mix_neg]
 all_goals
  unfold vOne at hp
  split at hp
  ·split at hp
   ·rw [List.mem_singleton.1 hp]
    first | exact ⟨by simp,by omega⟩ | exact .inr ⟨rfl,rfl⟩
   ·cases hp
  ·cases hp
theorem RelV.edge (k:Nat):RelV text G (wEdge text k) (vEdge text k):=by
 refine ⟨fun i x hi=>?_,fun i p hi hp=>?_,fun i p hi hp g=>?_⟩
 ·unfold wEdge vEdge
  split
  all_goals simp [mix_neg]
 all_goals
  unfold vEdge at hp
  split at hp
  ·rw [List.mem_singleton.1 hp]
   first | exact ⟨by simp,hi⟩ | exact .inr ⟨rfl,rfl⟩
  ·cases hp
theorem RelV.group {g:Nat} (h:RelV text G A V) (hg:¬ G g):RelV text (fun k=>G k∨k=g) (wGroup g A) (vGroup g V):=by
 refine ⟨fun i x hi=>?_,fun i p hi hp=>?_,fun i p hi hp k=>?_⟩
 ·unfold wGroup vGroup
  rw [h.eq i _ hi,List.map_map,List.map_map]
  refine List.map_congr_left fun p hp=>?_
  have q:=h.nt i p hi hp g
  have q:p.2 (2 * g) = -1:=by
   rcases q with q | q
   ·exact absurd q.2 hg
   ·exact q.1
  simp only [Function.comp_def,Prod.mk.injEq,true_and]
  funext s
  unfold nu mix
  by_cases e:s / 2=g
  ·have:s=2 * g∨s=2 * g+1:=by omega
   rcases this with e' | e'
   ·subst e'
    simp [q]
   ·subst e'
    have e2:2 * ((2 * g+1) / 2)=2 * g:=by omega
    simp [e2]
  ·have n1:¬ 2 * (s / 2)=2 * g:=by omega
   have n2:¬ 2 * (s / 2)=2 * g+1:=by omega
   have n3:¬ s=2 * g:=by omega
   have n4:¬ s=2 * g+1:=by omega
   simp only [n1,n2,n3,n4,if_false]
 ·obtain ⟨q,hq,rfl⟩:=List.mem_map.1 hp
  exact h.mn i q hi hq
 ·obtain ⟨q,hq,rfl⟩:=List.mem_map.1 hp
  have a:=h.nt i q hi hq k
  unfold nu
  dsimp only
  by_cases e:k=g
  ·subst e
   left;simp
  ·have n1:¬ 2 * k=2 * g:=by omega
   have n2:¬ 2 * k=2 * g+1:=by omega
   have n3:¬ 2 * k+1=2 * g:=by omega
   have n4:¬ 2 * k+1=2 * g+1:=by omega
   simp only [n1,n2,n3,n4,if_false]
   exact a.imp (fun q=>⟨q.1,.inl q.2⟩) fun q=>q
def wRowF:List Wt→Wt
 | []=>wId
 | a::l=>wSeq a (wRowF l)
theorem wSeq_assoc (A B C:Wt):wSeq (wSeq A B) C=wSeq A (wSeq B C):=by
 funext i x
 simp [wSeq,List.flatMap_assoc]
theorem wSeq_id (A:Wt):wSeq A wId=A:=by
 funext i x
 simp [wSeq,wId]
theorem id_wSeq (A:Wt):wSeq wId A=A:=by
 funext i x
 simp [wSeq,wId]
theorem wRow_app:∀ (l:List Wt) (a:Wt),wRow (l++[a])=wSeq a (wRow l)
 | [],a=>by simp [wRow,id_wSeq,wSeq_id]
 | b::l,a=>by
  rw [List.cons_append,wRow,wRow_app l a,wRow,wSeq_assoc]
theorem wRow_rev:∀ l:List Wt,wRow l.reverse=wRowF l
 | []=>rfl
 | a::l=>by rw [List.reverse_cons,wRow_app,wRow_rev l,wRowF]
def wAny:List Wt→Wt
 | []=>fun _ _=>[]
 | a::l=>wOr a (wAny l)
theorem wBr_app:∀ (l:List Wt) (a B:Wt),wBr (l++[a]) B=wOr a (wBr l B)
 | [],a,B=>rfl
 | b::l,a,B=>by rw [List.cons_append,wBr,wBr_app l a,wBr]
theorem wOr_nil (A:Wt):wOr A (fun _ _=>[])=A:=by
 funext i x
 simp [wOr]
theorem wBranches_rev:∀ l:List Wt,l≠[]→wBranches l.reverse=wAny l
 | [a],_=>by simp [wBranches,wBr,wAny,wOr_nil]
 | a::b::l,_=>by
  have ih:=wBranches_rev (b::l) (by simp)
  rw [List.reverse_cons,wAny,←ih]
  cases e:(b::l).reverse with
  | nil=>simp at e
  | cons c m=>rw [List.cons_append,wBranches,wBr_app,wBranches]
theorem RelV.rowF:∀ (l:List (Wt×Rt)),(∀ p∈l,RelV text G p.1 p.2)→RelV text G (wRowF (l.map (·.1))) (vRow (l.map (·.2)))
 | [],_=>RelV.id
 | p::l,h=>(h p (by simp)).seq (RelV.rowF l fun q hq=>h q (by simp [hq]))
theorem RelV.any:∀ (l:List (Wt×Rt)),(∀ p∈l,RelV text G p.1 p.2)→RelV text G (wAny (l.map (·.1))) (vAny (l.map (·.2)))
 | [],_=>⟨fun _ _ _=>rfl,fun _ _ _ h=>(by cases h),fun _ _ _ h=>(by cases h)⟩
 | p::l,h=>(h p (by simp)).or (RelV.any l fun q hq=>h q (by simp [hq]))
theorem wTimes_comm (A:Wt):∀ k,wSeq (wTimes A k) A=wSeq A (wTimes A k)
 | 0=>by rw [wTimes,id_wSeq,wSeq_id]
 | k+1=>by rw [wTimes,←wSeq_assoc,←wTimes_comm A k]
theorem RelV.times (h:RelV text G A V) (h2:RelV text G B U):∀ k,RelV text G (wSeq (wTimes A k) B) (vTimes V k U)
 | 0=>by rw [wTimes,id_wSeq];exact h2
 | k+1=>by
  rw [wTimes,wTimes_comm,wSeq_assoc]
  exact h.seq (RelV.times h h2 k)
theorem wUp_comm (A:Wt):∀ k B,wUp A k (wOr (wSeq A B) wId)=wOr (wSeq A (wUp A k B)) wId
 | 0,_=>rfl
 | k+1,B=>by rw [wUp,wUp_comm A k,wUp]
theorem RelV.upTo (h:RelV text G A V):∀ k,RelV text G (wUp A k wId) (vUp V k)
 | 0=>RelV.id
 | k+1=>by
  rw [wUp,wUp_comm]
  exact (h.seq (RelV.upTo h k)).or RelV.id
theorem RelV.turns (h:RelV text G A V):∀ k,RelV text G (wTurns A k) (vTurns V k)
 | 0=>RelV.id
 | k+1=>by
  have ih:=RelV.turns h k
  refine ⟨fun i x hi=>?_,fun i p hi hp=>?_,fun i p hi hp g=>?_⟩
  ·rw [wTurns,vTurns,h.eq i x hi,List.map_append,List.map_flatMap,List.filter_map,List.flatMap_map]
   congr 1
   ·refine flatMap_same fun p hp=>?_
    have hp':=(List.mem_filter.1 hp).1
    rw [ih.eq _ _ (h.mn i p hi hp').2,List.map_map]
    refine List.map_congr_left fun q hq=>?_
    simp [mix_mix]
  ·rw [vTurns] at hp
   rcases List.mem_append.1 hp with hp | hp
   ·obtain ⟨p1,h1,hp⟩:=List.mem_flatMap.1 hp
    obtain ⟨q,hq,rfl⟩:=List.mem_map.1 hp
    have a:=h.mn i p1 hi (List.mem_filter.1 h1).1
    have b:=ih.mn _ q a.2 hq
    exact ⟨by show i≤q.1;omega,b.2⟩
   ·rw [List.mem_singleton.1 hp];exact ⟨Nat.le_refl _,hi⟩
  ·rw [vTurns] at hp
   rcases List.mem_append.1 hp with hp | hp
   ·obtain ⟨p1,h1,hp⟩:=List.mem_flatMap.1 hp
    obtain ⟨q,hq,rfl⟩:=List.mem_map.1 hp
    have h1':=(List.mem_filter.1 h1).1
    have a:=h.nt i p1 hi h1' g
    have b:=ih.nt _ q (h.mn i p1 hi h1').2 hq g
    have e1:2 * (2 * g / 2)=2 * g:=by omega
    have e2:2 * ((2 * g+1) / 2)=2 * g:=by omega
    dsimp only [mix]
    rw [e1,e2]
    rcases b with b | b
    ·rw [if_pos b.1,if_pos b.1];exact .inl b
    ·rw [if_neg (by omega),if_neg (by omega)];exact a
   ·rw [List.mem_singleton.1 hp];exact .inr ⟨rfl,rfl⟩
theorem RelV.star (h:RelV text G A V):RelV text G (wStar text A) (vStar text V):=
 ⟨fun i x hi=>(RelV.turns h _).eq i x hi,fun i p hi hp=>(RelV.turns h _).mn i p hi hp,fun i p hi hp=>(RelV.turns h _).nt i p hi hp⟩
theorem RelV.rep (h:RelV text G A V) (least:Nat):∀ most,RelV text G (wRep text A least most) (vRep text V least most)
 | some _=>RelV.times h (RelV.upTo h _) least
 | none=>RelV.times h (RelV.star h) least
theorem vTurns_any (hV:∀ i p,i≤text.size→p∈V i→i≤p.1∧p.1≤text.size):∀ m i k k',i≤text.size→text.size - i≤m→text.size - i≤k→text.size - i≤k'→vTurns V k i=vTurns V k' i:=by
 intro m
 induction m with
 | zero=>
  intro i k k' hi hm _ _
  have e:∀ k,vTurns V k i=[(i,neg)]:=fun k=>by
   cases k with
   | zero=>rfl
   | succ k=>
    rw [vTurns,List.filter_eq_nil_iff.2 fun p hp=>?_]
    ·rfl
    ·have:=hV i p hi hp
     simp;omega
  rw [e,e]
 | succ m ih=>
  intro i k k' hi hm hk hk'
  by_cases e:text.size - i≤m
  ·exact ih i k k' hi e hk hk'
  ·obtain ⟨k,rfl⟩:∃ j,k=j+1:=⟨k - 1,by omega⟩
   obtain ⟨k',rfl⟩:∃ j,k'=j+1:=⟨k' - 1,by omega⟩
   rw [vTurns,vTurns,flatMap_same]
   intro p hp
   obtain ⟨p1,p2⟩:=List.mem_filter.1 hp
   have a:=hV i p hi p1
   have p2:p.1≠i:=by simpa using p2
   rw [ih p.1 k k' a.2 (by omega) (by omega) (by omega)]
theorem vStar_eq (hV:∀ i p,i≤text.size→p∈V i→i≤p.1∧p.1≤text.size) {i:Nat} (hi:i≤text.size):vStar text V i=(((V i).filter fun p=>decide (p.1≠i)).flatMap fun p=>(vStar text V p.1).map fun q=>(q.1,mix p.2 q.2))++[(i,neg)]:=by
 unfold vStar
 rw [vTurns_any hV (text.size - i) i _ (text.size - i+1) hi (Nat.le_refl _) (Nat.le_refl _) (by omega),vTurns,flatMap_same]
 intro p hp
 obtain ⟨p1,p2⟩:=List.mem_filter.1 hp
 have a:=hV i p hi p1
 have p2:p.1≠i:=by simpa using p2
 rw [vTurns_any hV (text.size - p.1) p.1 (text.size - i) (text.size - p.1) a.2 (Nat.le_refl _) (by omega) (by omega)]
end
def putT (l:List (Nat×Zt)) (w:Nat×Zt):List (Nat×Zt):=if l.any (fun p=>p.1 == w.1)=true then l else l++[w]
def frs (D:List Nat):List (Nat×Zt)→List (Nat×Zt)
 | []=>[]
 | w::l=>if w.1∈D then frs D l else w::frs (w.1::D) l
abbrev ddT (l:List (Nat×Zt)):List (Nat×Zt):=frs [] l
abbrev ends (l:List (Nat×Zt)):List Nat:=l.map (·.1)
theorem frs_congr:∀ (l:List (Nat×Zt)) {D E:List Nat},(∀ a,a∈D ↔ a∈E)→frs D l=frs E l
 | [],_,_,_=>rfl
 | w::l,D,E,h=>by
  unfold frs
  by_cases e:w.1∈D
  ·rw [if_pos e,if_pos ((h _).1 e)];exact frs_congr l h
  ·rw [if_neg e,if_neg (fun q=>e ((h _).2 q)),frs_congr l (D:=w.1::D) (E:=w.1::E) (fun a=>by simp [h a])]
theorem frs_append:∀ (l m:List (Nat×Zt)) (D:List Nat),frs D (l++m)=frs D l++frs (ends l++D) m
 | [],m,D=>rfl
 | w::l,m,D=>by
  rw [List.cons_append,frs,frs]
  by_cases e:w.1∈D
  ·rw [if_pos e,if_pos e,frs_append l m D]
   congr 1
   exact frs_congr m fun a=>by
    simp only [ends,List.map_cons,List.cons_append,List.mem_append,List.mem_cons]
    constructor
    ·rintro (q | q)
     ·exact .inr (.inl q)
     ·exact .inr (.inr q)
    ·rintro (rfl | q | q)
     ·exact .inr e
     ·exact .inl q
     ·exact .inr q
  ·rw [if_neg e,if_neg e,frs_append l m,List.cons_append]
   congr 2
   exact frs_congr m fun a=>by
    simp only [ends,List.map_cons,List.cons_append,List.mem_append,List.mem_cons]
    constructor
    ·rintro (q | q | q)
     ·exact .inr (.inl q)
     ·exact .inl q
     ·exact .inr (.inr q)
    ·rintro (q | q | q)
     ·exact .inr (.inl q)
     ·exact .inl q
     ·exact .inr (.inr q)
theorem frs_nil:∀ (l:List (Nat×Zt)) {D:List Nat},(∀ p∈l,p.1∈D)→frs D l=[]
 | [],_,_=>rfl
 | w::l,D,h=>by
  unfold frs
  rw [if_pos (h w (by simp))]
  exact frs_nil l fun p hp=>h p (by simp [hp])
theorem frs_sub:∀ (l:List (Nat×Zt)) {D:List Nat} {p:Nat×Zt},p∈frs D l→p∈l
 | w::l,D,p,h=>by
  unfold frs at h
  split at h
  ·exact List.mem_cons_of_mem _ (frs_sub l h)
  ·rcases List.mem_cons.1 h with rfl | h
   ·simp
   ·exact List.mem_cons_of_mem _ (frs_sub l h)
theorem frs_ends:∀ (l:List (Nat×Zt)) {D:List Nat} (a:Nat),a∈ends (frs D l)++D ↔ a∈ends l++D
 | [],_,_=>Iff.rfl
 | w::l,D,a=>by
  unfold frs
  split
  ·rename_i e
   rw [frs_ends l a]
   simp only [ends,List.map_cons,List.cons_append,List.mem_append,List.mem_cons]
   constructor
   ·rintro (q | q)
    ·exact .inr (.inl q)
    ·exact .inr (.inr q)
   ·rintro (rfl | q | q)
    ·exact .inr e
    ·exact .inl q
    ·exact .inr q
  ·have:=frs_ends l (D:=w.1::D) a
   simp only [ends,List.map_cons,List.cons_append,List.mem_append,List.mem_cons] at this ⊢
   constructor
   ·rintro (q | q | q)
    ·exact .inl q
    ·rcases this.1 (.inl q) with q | q | q
     ·exact .inr (.inl q)
     ·exact .inl q
     ·exact .inr (.inr q)
    ·exact .inr (.inr q)
   ·rintro (q | q | q)
    ·exact .inl q
    ·rcases this.2 (.inl q) with q | q | q
     ·exact .inr (.inl q)
     ·exact .inl q
     ·exact .inr (.inr q)
    ·exact .inr (.inr q)
theorem frs_map {f:Nat×Zt→Nat×Zt} (hf:∀ p,(f p).1=p.1):∀ (l:List (Nat×Zt)) (D:List Nat),frs D (l.map f)=(frs D l).map f
 | [],_=>rfl
 | w::l,D=>by
  rw [List.map_cons]
  unfold frs
  rw [hf]
  split
  ·exact frs_map hf l D
  ·rw [List.map_cons,frs_map hf l]
theorem frs_filter {q:Nat→Bool}:∀ (l:List (Nat×Zt)) (D:List Nat),frs D (l.filter fun p=>q p.1)=(frs D l).filter fun p=>q p.1
 | [],_=>rfl
 | w::l,D=>by
  rw [List.filter_cons]
  by_cases e:q w.1=true
  ·rw [if_pos e]
   unfold frs
   split
   ·exact frs_filter l D
   ·rw [List.filter_cons,if_pos e,frs_filter l]
  ·rw [if_neg e]
   rw [frs]
   split
   ·exact frs_filter l D
   ·rw [List.filter_cons,if_neg e,←frs_filter l]
    -- w.1 does not come up among those that are left
    have:∀ (m:List (Nat×Zt)) (E F:List Nat),(∀ a,q a=true→(a∈E ↔ a∈F))→(∀ p∈m,q p.1=true)→frs E m=frs F m:=by
     intro m
     induction m with
     | nil=>intro E F _ _;rfl
     | cons v m ih=>
      intro E F h1 h2
      have hv:=h2 v (by simp)
      rw [frs,frs]
      by_cases e1:v.1∈E
      ·rw [if_pos e1,if_pos ((h1 _ hv).1 e1)];exact ih E F h1 fun p hp=>h2 p (by simp [hp])
      ·rw [if_neg e1,if_neg fun z=>e1 ((h1 _ hv).2 z),ih (v.1::E) (v.1::F) (fun a ha=>by simp [h1 a ha]) fun p hp=>h2 p (by simp [hp])]
    refine this _ _ _ (fun a ha=>?_) fun p hp=>(List.mem_filter.1 hp).2
    simp only [List.mem_cons]
    constructor
    ·exact .inr
    ·rintro (rfl | z)
     ·exact absurd ha e
     ·exact z
theorem frs_flat {f:Nat×Zt→List (Nat×Zt)} (hf:∀ p p':Nat×Zt,p.1=p'.1→ends (f p)=ends (f p')):∀ (l:List (Nat×Zt)) (D E:List Nat),(∀ p:Nat×Zt,p.1∈E→∀ a∈ends (f p),a∈D)→frs D ((frs E l).flatMap f)=frs D (l.flatMap f)
 | [],_,_,_=>rfl
 | w::l,D,E,h=>by
  rw [List.flatMap_cons,frs_append]
  rw [frs]
  split
  ·rename_i e
   have hw:=h w e
   rw [frs_nil (f w) (fun p hp=>hw _ (List.mem_map.2 ⟨p,hp,rfl⟩)),List.nil_append,frs_flat hf l D E h]
   exact frs_congr _ fun a=>by
    rw [List.mem_append]
    exact ⟨.inr,fun q=>q.elim (hw a) fun q=>q⟩
  ·rw [List.flatMap_cons,frs_append]
   congr 1
   refine frs_flat hf l _ _ fun p hp a ha=>?_
   rcases List.mem_cons.1 hp with e | e
   ·rw [hf p w e] at ha;exact List.mem_append.2 (.inl ha)
   ·exact List.mem_append.2 (.inr (h p e a ha))
theorem frs_frs:∀ (l:List (Nat×Zt)) (D E:List Nat),(∀ a∈E,a∈D)→frs D (frs E l)=frs D l
 | [],_,_,_=>rfl
 | w::l,D,E,h=>by
  rw [frs]
  split
  ·rename_i e
   rw [frs_frs l D E h,frs,if_pos (h _ e)]
  ·rw [frs,frs]
   split
   ·rename_i e
    exact frs_frs l D _ fun a ha=>by
     rcases List.mem_cons.1 ha with rfl | q
     ·exact e
     ·exact h a q
   ·rw [frs_frs l _ _ fun a ha=>by
     rcases List.mem_cons.1 ha with rfl | q
     ·simp
     ·exact List.mem_cons_of_mem _ (h a q)]
theorem frs_inner {α:Type} {g:α→List (Nat×Zt)}:∀ (l:List α) (D:List Nat),frs D (l.flatMap fun p=>ddT (g p))=frs D (l.flatMap g)
 | [],_=>rfl
 | w::l,D=>by
  rw [List.flatMap_cons,List.flatMap_cons,frs_append,frs_append,frs_frs (g w) D [] (fun _ h=>by cases h),frs_inner l]
  congr 1
  exact frs_congr _ fun a=>by
   have:=frs_ends (g w) (D:=[]) a
   rw [List.append_nil,List.append_nil] at this
   rw [List.mem_append,List.mem_append,this]
theorem foldl_put:∀ (l acc:List (Nat×Zt)),l.foldl putT acc=acc++frs (ends acc) l
 | [],acc=>by simp [frs]
 | w::l,acc=>by
  rw [List.foldl_cons,foldl_put l,frs]
  unfold putT
  have hm:(acc.any (fun p=>p.1 == w.1)=true) ↔ w.1∈ends acc:=by simp [ends]
  by_cases e:w.1∈ends acc
  ·rw [if_pos (hm.2 e),if_pos e]
  ·rw [if_neg (fun q=>e (hm.1 q)),if_neg e,List.append_assoc,List.singleton_append]
   congr 2
   exact frs_congr l fun a=>by simp [ends,or_comm]
theorem dd_seq (V U:Rt) (i:Nat):ddT ((ddT (V i)).flatMap fun p=>(ddT (U p.1)).map fun q=>(q.1,mix p.2 q.2))=ddT (vSeq V U i):=by
 have e:∀ p:Nat×Zt,((ddT (U p.1)).map fun q=>(q.1,mix p.2 q.2))=ddT ((U p.1).map fun q=>(q.1,mix p.2 q.2)):=fun p=>(frs_map (f:=fun q=>(q.1,mix p.2 q.2)) (fun _=>rfl) _ _).symm
 rw [flatMap_same fun p _=>e p,ddT,frs_inner]
 exact frs_flat (fun p p' h=>by simp [ends,h,Function.comp_def]) _ _ _ fun p h=>by cases h
theorem dd_or (V U:Rt) (i:Nat):ddT (ddT (V i)++ddT (U i))=ddT (vOr V U i):=by
 show frs [] (frs [] (V i)++frs [] (U i))=frs [] (V i++U i)
 rw [frs_append,frs_append,frs_frs _ _ _ (fun _ h=>by cases h)]
 congr 1
 rw [frs_frs _ _ _ (fun _ h=>by cases h)]
 exact frs_congr _ fun a=>frs_ends _ a
theorem own_kp {w w':World} {S:List Nat} {base size n:Nat} {e:TypeId} {v:Value} {xs:List Value} (h:w.ownsRow base e size v n xs) (k:Kp S w w') (hS:∀ g,v.ownBlock=some g→g∉S):w'.ownsRow base e size v n xs:=by
 refine ⟨h.1,?_⟩
 rcases h.2 with q | ⟨g,cap,cur,q1,q2,q3,q4⟩
 ·exact .inl q
 ·exact .inr ⟨g,cap,cur,q1,q2,(k.block g (lt_of_block q3) (hS g (by rw [q1];rfl))).trans q3,q4⟩
structure Nv where
 kind:Nat
 set:Nat→Bool
 num:Nat
 least:Int
 most:Int
 kids:List Nat
 size:Int
def ndC (x:Nv) (kv:Value):List Value:=
 .int .i64 x.kind::(((List.range 256).map fun i=>Value.bool (x.set i))++[.int .i64 x.num,.int .i64 x.least,.int .i64 x.most,kv,.int .i64 x.size])
theorem ndC_len (x:Nv) (kv:Value):(ndC x kv).length=262:=by simp [ndC]
theorem ndC_one (x:Nv) {kv:Value} (h:kv.oneCell'=true):∀ u∈ndC x kv,u.oneCell'=true:=by
 intro u hu
 simp only [ndC,List.mem_cons,List.mem_append,List.mem_map,List.not_mem_nil,or_false] at hu
 rcases hu with rfl | ⟨i,_,rfl⟩ | rfl | rfl | rfl | rfl | rfl
 all_goals first | rfl | exact h
abbrev Nw:=Nv×Value
def flatN (N:List Nw):List Value:=N.flatMap fun p=>ndC p.1 p.2
theorem flatN_snoc (N:List Nw) (p:Nw):flatN (N++[p])=flatN N++ndC p.1 p.2:=by simp [flatN]
theorem flatN_at:∀ (N:List Nw) (i:Nat) (p:Nw),N[i]? = some p→∀ j,j < 262→(flatN N)[i * 262+j]? = (ndC p.1 p.2)[j]?
 | p::N,0,q,h,j,hj=>by
  cases h
  show (ndC p.1 p.2++flatN N)[0 * 262+j]? = _
  rw [Nat.zero_mul,Nat.zero_add,List.getElem?_append_left (by rw [ndC_len];exact hj)]
 | p::N,i+1,q,h,j,hj=>by
  have ih:=flatN_at N i q (by simpa using h) j hj
  show (ndC p.1 p.2++flatN N)[(i+1) * 262+j]? = _
  rw [List.getElem?_append_right (by rw [ndC_len];omega),ndC_len,show (i+1) * 262+j - 262=i * 262+j by omega]
  exact ih
structure Kd (w:World) (B:Nat) (v kv:Value) (js:List Nat):Prop where
 own:w.ownsRow B 3 1 kv js.length (js.map fun (j:Nat)=>Value.int .i64 j)
 ne:∀ g,kv.ownBlock=some g→v.ownBlock≠some g
theorem Kd.one {w:World} {B:Nat} {v kv:Value} {js:List Nat} (h:Kd w B v kv js):kv.oneCell'=true:=by
 rcases h.own.2 with ⟨q,_⟩ | ⟨g,cap,cur,q,_⟩ <;> rw [q] <;> rfl
theorem Kd.nil (w:World) (B:Nat) (v:Value):Kd w B v (.slice none 0 0) []:=⟨World.ownsRow_nil _ _ _ _,fun g h=>by cases h⟩
structure Ps (w:World) (B b q:Nat) (src:ByteArray) (k g:Nat) (bad:Int) (v:Value) (N:List Nw):Prop where
 pr:Pr w b q src k bad
 q0:w.cell? ⟨q,0,none⟩=some v
 q1:w.cell? ⟨q,1,none⟩=some (.int .i64 g)
 fq:∀ i,w.frozen? ⟨q,i,none⟩=false
 own:w.ownsRow B 192 262 v N.length (flatN N)
 kd:∀ p∈N,Kd w B v p.2 p.1.kids
 hb:b < B
 hq:q < B
 ne:b≠q
 hB:B≤w.heap.size
structure Pk (b q:Nat) (v v':Value) (w w':World):Prop where
 kp:Kp (b::q::v.ownBlock.toList) w w'
 new:∀ p,v'.ownBlock=some p→v.ownBlock=some p∨w.heap.size≤p
section
variable {w w' w1:World} {B b q:Nat} {src:ByteArray} {k g:Nat} {bad:Int} {v v' v1:Value} {N:List Nw}
theorem Ps.lt (h:Ps w B b q src k g bad v N):b < w.heap.size∧q < w.heap.size:=⟨h.pr.lt,by have:=h.hq;have:=h.hB;omega⟩
theorem Pk.refl (b q:Nat) (v:Value) (w:World):Pk b q v v w w:=⟨Kp.refl _ _,fun _ h=>.inl h⟩
theorem Pk.trans (h:Pk b q v v1 w w1) (h2:Pk b q v1 v' w1 w'):Pk b q v v' w w':=by
 refine ⟨⟨h2.kp.os.trans h.kp.os,h2.kp.tape.trans h.kp.tape,h2.kp.output.trans h.kp.output,Nat.le_trans h.kp.size h2.kp.size,fun i hi hn=>?_⟩,fun p hp=>?_⟩
 ·refine (h2.kp.block i (Nat.lt_of_lt_of_le hi h.kp.size) fun hm=>hn ?_).trans (h.kp.block i hi hn)
  rcases List.mem_cons.1 hm with e | hm
  ·rw [e];simp
  ·rcases List.mem_cons.1 hm with e | hm
   ·rw [e];simp
   ·have e:v1.ownBlock=some i:=by simpa using hm
    rcases h.new i e with e1 | e1
    ·simp [e1]
    ·omega
 ·rcases h2.new p hp with e | e
  ·exact h.new p e
  ·exact .inr (by have:=h.kp.size;omega)
theorem Pk.of_kp {S:List Nat} (h:Kp S w w') (hS:∀ x∈S,x=b∨x=q):Pk b q v v w w':=⟨h.mono fun x hx=>by
 rcases hS x hx with rfl | rfl <;> simp,fun _ h=>.inl h⟩
theorem Kd.keep {S:List Nat} {kv:Value} {js:List Nat} (h:Kd w B v kv js) (k:Kp S w w') (hS:∀ x∈S,x < B):Kd w' B v kv js:=
 ⟨own_kp h.own k fun g hg hm=>by have:=(h.own.lt g hg).1;have:=hS g hm;omega,h.ne⟩
theorem Ps.move {S:List Nat} {k1:Nat} {bad1:Int} (h:Ps w B b q src k g bad v N) (p:Kp S w w') (hS:∀ x∈S,x=b) (h1:Pr w' b q src k1 bad1):Ps w' B b q src k1 g bad1 v N:=by
 have hq:q∉S:=fun hm=>h.ne (hS q hm).symm
 have hl:=h.lt.2
 have hSB:∀ x∈S,x < B:=fun x hx=>by rw [hS x hx];exact h.hb
 exact ⟨h1,(p.cell (p:=⟨q,0,none⟩) hl hq).trans h.q0,(p.cell (p:=⟨q,1,none⟩) hl hq).trans h.q1,fun i=>(p.frozen (p:=⟨q,i,none⟩) hl hq).trans (h.fq i),
  own_kp h.own p fun g hg hm=>by have:=(h.own.lt g hg).1;have:=hSB g hm;omega,fun x hx=>(h.kd x hx).keep p hSB,h.hb,h.hq,h.ne,Nat.le_trans h.hB p.size⟩
theorem Ps.other {S:List Nat} (h:Ps w B b q src k g bad v N) (p:Kp S w w') (hb:b∉S) (hq:q∉S) (hv:∀ x,v.ownBlock=some x→x∉S) (hk:∀ y∈N,∀ x,y.2.ownBlock=some x→x∉S):Ps w' B b q src k g bad v N:=by
 have hl:=h.lt.2
 exact ⟨h.pr.keep p hb,(p.cell (p:=⟨q,0,none⟩) hl hq).trans h.q0,(p.cell (p:=⟨q,1,none⟩) hl hq).trans h.q1,fun i=>(p.frozen (p:=⟨q,i,none⟩) hl hq).trans (h.fq i),
  own_kp h.own p hv,fun x hx=>⟨own_kp (h.kd x hx).own p (hk x hx),(h.kd x hx).ne⟩,h.hb,h.hq,h.ne,Nat.le_trans h.hB p.size⟩
theorem Ps.keep (h:Ps w B b q src k g bad v N) (p:Kp [] w w'):Ps w' B b q src k g bad v N:=h.other p (by simp) (by simp) (fun _ _=>by simp) fun _ _ _ _=>by simp
theorem node_push (h:Ps w B b q src k g bad v N) (x:Nv) {kv:Value} (hk:Kd w B v kv x.kids) (hn:N.length≤100000) :
  Calls Tryz.prog 117 #[.pointer (some ⟨b,0,none⟩),.agg (ndC x kv).toArray] w fun e w'=>e=.returned (.int .i64 N.length)∧∃ v',Ps w' B b q src k g bad v' (N++[(x,kv)])∧Pk b q v v' w w':=by
 refine (node_any h.pr h.q0 (h.fq 0) h.own h.hb h.hq h.hB (ndC_len x kv) (ndC_one x hk.one) hn).mono ?_
 rintro e w' ⟨rfl,gb,c,h1,h2,h3,h4,h5⟩
 have hl:=h.lt
 have bn:b∉q::v.ownBlock.toList:=by
  intro hm
  rcases List.mem_cons.1 hm with e | hm
  ·exact h.ne e
  ·have e:v.ownBlock=some b:=by simpa using hm
   have:=(h.own.lt b e).1;have:=h.hb;omega
 have hfq:∀ i,w'.cell? ⟨q,i+1,none⟩=w.cell? ⟨q,i+1,none⟩∧w'.frozen? ⟨q,i,none⟩=false:=fun i=>⟨(h5 i).1,(h5 i).2.trans (h.fq i)⟩
 have kdn:∀ (kv:Value) (js:List Nat),Kd w B v kv js→Kd w' B (.slice (some ⟨gb,0,none⟩) (N.length+1) c) kv js:=fun kv js hd=>by
  refine ⟨own_kp hd.own h3 fun z hz hm=>?_,fun z hz=>?_⟩
  ·rcases List.mem_cons.1 hm with e | hm
   ·have:=(hd.own.lt z hz).1;have:=h.hq;omega
   ·exact hd.ne z hz (by simpa using hm)
  ·intro e
   have e:gb=z:=Option.some.inj e
   rcases h4 with q1 | q1
   ·exact hd.ne z hz (by rw [q1,e])
   ·have:=(hd.own.lt z hz).2;omega
 refine ⟨rfl,_,⟨h.pr.keep h3 bn,h1,((hfq 0).1).trans h.q1,fun i=>(hfq i).2,?_,fun p hp=>?_,h.hb,h.hq,h.ne,Nat.le_trans h.hB h3.size⟩,⟨h3.mono fun x hx=>List.mem_cons_of_mem _ hx,fun p hp=>?_⟩⟩
 ·rw [List.length_append,flatN_snoc];exact h2
 ·rcases List.mem_append.1 hp with e | e
  ·exact kdn _ _ (h.kd p e)
  ·rw [List.mem_singleton.1 e];exact kdn _ _ hk
 ·have e:gb=p:=Option.some.inj hp
  subst e
  exact h4
end
