import Derived.Test.YtnfglkdkmcocnaaGreatDoorR11
set_option maxRecDepth 100000
set_option maxHeartbeats 16000000
set_option linter.all false
namespace Go.Proofs.YtnfglkdkmcocnaaGreatDoor
open Go.RowKit
inductive Pth (cd:Nat→In) (text:ByteArray):Nat→Nat→Thr→Nat→Thr→Prop
 | nil {i:Nat} {t:Thr}:Pth cd text 0 i t i t
 | eps {k i e:Nat} {t u f:Thr} (hu:u∈eps cd text i t) (h:Pth cd text k i u e f):Pth cd text (k+1) i t e f
 | byte {k i e:Nat} {t f:Thr} (hb:takesB cd text i t=true) (h:Pth cd text k (i+1) (behind cd t) e f):Pth cd text (k+1) i t e f
section
variable {cd:Nat→In} {text:ByteArray} {bg fr k i e pc tk:Nat} {t u f:Thr} {x:Nat→Int}
theorem Pth.trans {l j:Nat} (h:Pth cd text k i t j u) (h2:Pth cd text l j u e f):∃ m,Pth cd text m i t e f:=by
 induction h with
 | nil=>exact ⟨_,h2⟩
 | eps hu _ ih=>obtain ⟨m,q⟩:=ih h2;exact ⟨_,.eps hu q⟩
 | byte hb _ ih=>obtain ⟨m,q⟩:=ih h2;exact ⟨_,.byte hb q⟩
theorem pth_first (h:Pth cd text k i t e f) (h6:(cd f.pc).kind=6) (hk:(cd t.pc).kind≠6):∃ k',k=k'+1∧((∃ u∈eps cd text i t,Pth cd text k' i u e f)∨(takesB cd text i t=true∧Pth cd text k' (i+1) (behind cd t) e f)):=by
 cases h with
 | nil=>exact absurd h6 hk
 | eps hu h=>exact ⟨_,rfl,.inl ⟨_,hu,h⟩⟩
 | byte hb h=>exact ⟨_,rfl,.inr ⟨hb,h⟩⟩
theorem no_takes (h:(cd t.pc).kind≠0):takesB cd text i t=false:=by unfold takesB;simp [h]
theorem first_byte {nx ot sl dp:Nat} {m:Nat→Bool} (hc:cd pc=⟨0,nx,ot,sl,dp,m⟩) (h:Pth cd text k i ⟨pc,tk,x⟩ e f) (h6:(cd f.pc).kind=6):∃ k',k=k'+1∧(∃ hl:i < text.size,m (text[i]'hl).toNat=true)∧Pth cd text k' (i+1) ⟨nx,dp,x⟩ e f:=by
 obtain ⟨k',e1,⟨u,hu,_⟩ | ⟨hb,p⟩⟩:=pth_first h h6 (by show (cd pc).kind≠6;rw [hc];simp)
 ·unfold Go.Proofs.YtnfglkdkmcocnaaGreatDoor.eps epsC at hu
  simp [hc] at hu
 ·refine ⟨k',e1,?_,?_⟩
  ·unfold takesB at hb
   simp [hc] at hb
   exact hb
  ·unfold behind at p
   simpa [hc] using p
theorem first_begin {nx ot sl dp:Nat} {m:Nat→Bool} (hc:cd pc=⟨1,nx,ot,sl,dp,m⟩) (h:Pth cd text k i ⟨pc,tk,x⟩ e f) (h6:(cd f.pc).kind=6):∃ k',k=k'+1∧i=0∧Pth cd text k' i ⟨nx,tk,x⟩ e f:=by
 obtain ⟨k',e1,⟨u,hu,p⟩ | ⟨hb,_⟩⟩:=pth_first h h6 (by show (cd pc).kind≠6;rw [hc];simp)
 ·unfold Go.Proofs.YtnfglkdkmcocnaaGreatDoor.eps epsC noteE at hu
  by_cases h0:i=0
  ·simp [hc,h0] at hu
   subst hu
   exact ⟨k',e1,h0,p⟩
  ·simp [hc,h0] at hu
 ·rw [no_takes (by show (cd pc).kind≠0;rw [hc];simp)] at hb;cases hb
theorem first_end {nx ot sl dp:Nat} {m:Nat→Bool} (hc:cd pc=⟨2,nx,ot,sl,dp,m⟩) (h:Pth cd text k i ⟨pc,tk,x⟩ e f) (h6:(cd f.pc).kind=6):∃ k',k=k'+1∧i=text.size∧Pth cd text k' i ⟨nx,tk,x⟩ e f:=by
 obtain ⟨k',e1,⟨u,hu,p⟩ | ⟨hb,_⟩⟩:=pth_first h h6 (by show (cd pc).kind≠6;rw [hc];simp)
 ·unfold Go.Proofs.YtnfglkdkmcocnaaGreatDoor.eps epsC noteE at hu
  by_cases h0:i=text.size
  ·simp [hc,h0] at hu
   subst hu
   exact ⟨k',e1,h0,p⟩
  ·simp [hc,h0] at hu
 ·rw [no_takes (by show (cd pc).kind≠0;rw [hc];simp)] at hb;cases hb
theorem first_note {nx ot sl dp:Nat} {m:Nat→Bool} (hc:cd pc=⟨3,nx,ot,sl,dp,m⟩) (h:Pth cd text k i ⟨pc,tk,x⟩ e f) (h6:(cd f.pc).kind=6):∃ k',k=k'+1∧Pth cd text k' i ⟨nx,tk,nu x sl i⟩ e f:=by
 obtain ⟨k',e1,⟨u,hu,p⟩ | ⟨hb,_⟩⟩:=pth_first h h6 (by show (cd pc).kind≠6;rw [hc];simp)
 ·unfold Go.Proofs.YtnfglkdkmcocnaaGreatDoor.eps epsC noteE at hu
  simp [hc] at hu
  subst hu
  exact ⟨k',e1,p⟩
 ·rw [no_takes (by show (cd pc).kind≠0;rw [hc];simp)] at hb;cases hb
theorem first_split {nx ot sl dp:Nat} {m:Nat→Bool} (hc:cd pc=⟨4,nx,ot,sl,dp,m⟩) (h:Pth cd text k i ⟨pc,tk,x⟩ e f) (h6:(cd f.pc).kind=6):∃ k',k=k'+1∧(Pth cd text k' i ⟨nx,tk,x⟩ e f∨Pth cd text k' i ⟨ot,tk,x⟩ e f):=by
 obtain ⟨k',e1,⟨u,hu,p⟩ | ⟨hb,_⟩⟩:=pth_first h h6 (by show (cd pc).kind≠6;rw [hc];simp)
 ·unfold Go.Proofs.YtnfglkdkmcocnaaGreatDoor.eps epsC noteE at hu
  simp [hc] at hu
  rcases hu with rfl | rfl
  ·exact ⟨k',e1,.inl p⟩
  ·exact ⟨k',e1,.inr p⟩
 ·rw [no_takes (by show (cd pc).kind≠0;rw [hc];simp)] at hb;cases hb
theorem first_turn {nx ot sl dp:Nat} {m:Nat→Bool} (hc:cd pc=⟨5,nx,ot,sl,dp,m⟩) (h:Pth cd text k i ⟨pc,tk,x⟩ e f) (h6:(cd f.pc).kind=6):∃ k',k=k'+1∧dp < tk∧Pth cd text k' i ⟨nx,dp,x⟩ e f:=by
 obtain ⟨k',e1,⟨u,hu,p⟩ | ⟨hb,_⟩⟩:=pth_first h h6 (by show (cd pc).kind≠6;rw [hc];simp)
 ·unfold Go.Proofs.YtnfglkdkmcocnaaGreatDoor.eps epsC noteE at hu
  by_cases h0:tk≤dp
  ·simp [hc,h0] at hu
  ·simp [hc,h0] at hu
   subst hu
   exact ⟨k',e1,by omega,p⟩
 ·rw [no_takes (by show (cd pc).kind≠0;rw [hc];simp)] at hb;cases hb
theorem step_byte {nx ot sl dp:Nat} {m:Nat→Bool} (hc:cd pc=⟨0,nx,ot,sl,dp,m⟩) (hl:i < text.size) (hm:m (text[i]'hl).toNat=true):Pth cd text 1 i ⟨pc,tk,x⟩ (i+1) ⟨nx,dp,x⟩:=by
 have:=Pth.byte (cd:=cd) (text:=text) (k:=0) (i:=i) (t:=⟨pc,tk,x⟩) (by unfold takesB;simp [hc,hl,hm]) .nil
 unfold behind at this
 simpa [hc] using this
theorem step_eps {nx tk':Nat} {x':Nat→Int} (h:(⟨nx,tk',x'⟩:Thr)∈eps cd text i ⟨pc,tk,x⟩):Pth cd text 1 i ⟨pc,tk,x⟩ i ⟨nx,tk',x'⟩:=.eps h .nil
end
abbrev Rl:=Nat→Nat→(Nat→Int)→Nat→Nat→(Nat→Int)→Prop
def mId:Rl:=fun i tk x j tk' x'=>j=i∧tk'=tk∧x'=x
def mSeq (A B:Rl):Rl:=fun i tk x j tk' x'=>∃ i1 t1 x1,A i tk x i1 t1 x1∧B i1 t1 x1 j tk' x'
def mOr (A B:Rl):Rl:=fun i tk x j tk' x'=>A i tk x j tk' x'∨B i tk x j tk' x'
def mOne (text:ByteArray) (m:Nat→Bool) (d:Nat):Rl:=fun i _ x j tk' x'=>(∃ h:i < text.size,m (text[i]'h).toNat=true)∧j=i+1∧tk'=d∧x'=x
def mEdge (text:ByteArray) (k:Nat):Rl:=fun i tk x j tk' x'=>((k=1∧i=0)∨(k=2∧i=text.size))∧j=i∧tk'=tk∧x'=x
def mGroup (g:Nat) (A:Rl):Rl:=fun i tk x j tk' x'=>∃ x2,A i tk (nu x (2 * g) i) j tk' x2∧x'=nu x2 (2 * g+1) j
def mRow:List (Nat→Rl)→Nat→Rl
 | [],_=>mId
 | m::ms,d=>mSeq (mRow ms d) (m d)
def mBr:List (Nat→Rl)→Rl→Nat→Rl
 | [],B,_=>B
 | m::ms,B,d=>mBr ms (mOr (m d) B) d
def mTimes (A:Rl):Nat→Rl
 | 0=>mId
 | k+1=>mSeq (mTimes A k) A
def mUp (A:Rl):Nat→Rl→Rl
 | 0,B=>B
 | k+1,B=>mUp A k (mOr (mSeq A B) mId)
inductive mTurns (A:Rl) (d:Nat):Rl
 | stop {i tk:Nat} {x:Nat→Int}:mTurns A d i tk x i tk x
 | turn {i tk i1 t1 j tk':Nat} {x x1 x':Nat→Int} (h:A i tk x i1 t1 x1) (ht:d < t1) (r:mTurns A d i1 d x1 j tk' x'):mTurns A d i tk x j tk' x'
def AtC (cd:Nat→In) (n:Nat) (l:List In):Prop:=∀ k i,l[k]? = some i→cd (n+k)=i
theorem AtC.left {cd:Nat→In} {n:Nat} {a b:List In} (h:AtC cd n (a++b)):AtC cd n a:=fun k i hk=>h k i (by
 rw [List.getElem?_append_left (List.getElem?_eq_some_iff.1 hk).1];exact hk)
theorem AtC.right {cd:Nat→In} {n l:Nat} {a b:List In} (h:AtC cd n (a++b)) (hl:a.length=l):AtC cd (n+l) b:=fun k i hk=>by
 have:=h (l+k) i (by rw [List.getElem?_append_right (by omega),hl,Nat.add_sub_cancel_left];exact hk)
 rwa [←Nat.add_assoc] at this
theorem AtC.head {cd:Nat→In} {n:Nat} {a:In} {b:List In} (h:AtC cd n (a::b)):cd n=a:=h 0 a rfl
theorem AtC.tail {cd:Nat→In} {n:Nat} {a:In} {b:List In} (h:AtC cd n (a::b)):AtC cd (n+1) b:=fun k i hk=>by
 have:=h (k+1) i (by simpa using hk)
 rwa [show n+(k+1)=n+1+k by omega] at this
structure Goes2 (cd:Nat→In) (text:ByteArray) (bg next:Nat) (A:Rl):Prop where
 comp:∀ {i tk x j tk' x'},A i tk x j tk' x'→∃ k,Pth cd text k i ⟨bg,tk,x⟩ j ⟨next,tk',x'⟩
 sound:∀ {k i tk x e f},Pth cd text k i ⟨bg,tk,x⟩ e f→(cd f.pc).kind=6→∃ k' j tk' x',k'≤k∧A i tk x j tk' x'∧Pth cd text k' j ⟨next,tk',x'⟩ e f
structure Sm (text:ByteArray) (len dd:Nat) (em:Em) (M:Nat→Rl):Prop where
 lens:∀ n next d,(em n next d).1.length=len
 wf:∀ n next d N Dm,next < N→n+len≤N→d+dd≤Dm→(∀ i∈(em n next d).1,i.kind≤5∧i.nx < N∧i.ot < N∧i.sl < 20∧i.dp≤Dm∧(i.kind=3→2≤i.sl))∧(em n next d).2 < N
 goes:∀ cd n next d,AtC cd n (em n next d).1→Goes2 cd text (em n next d).2 next (M d)
section
variable {cd:Nat→In} {text:ByteArray} {b c next:Nat} {A B:Rl}
theorem Goes2.id:Goes2 cd text next next mId:=
 ⟨fun ⟨h1,h2,h3⟩=>⟨0,by rw [h1,h2,h3];exact .nil⟩,fun {k i tk x e f} p _=>⟨k,i,tk,x,Nat.le_refl _,⟨rfl,rfl,rfl⟩,p⟩⟩
theorem Goes2.seq (h:Goes2 cd text b c A) (h2:Goes2 cd text c next B):Goes2 cd text b next (mSeq A B):=
 ⟨fun ⟨_,_,_,a1,a2⟩=>by
   obtain ⟨k,p⟩:=h.comp a1
   obtain ⟨l,q⟩:=h2.comp a2
   exact p.trans q,fun p h6=>by
   obtain ⟨k1,j1,t1,x1,l1,a1,p1⟩:=h.sound p h6
   obtain ⟨k2,j2,t2,x2,l2,a2,p2⟩:=h2.sound p1 h6
   exact ⟨k2,j2,t2,x2,Nat.le_trans l2 l1,⟨_,_,_,a1,a2⟩,p2⟩⟩
theorem Goes2.or {n:Nat} (hc:cd n=noIn 4 b c 0 0) (h:Goes2 cd text b next A) (h2:Goes2 cd text c next B):Goes2 cd text n next (mOr A B):=by
 have s1:∀ i tk x,Pth cd text 1 i ⟨n,tk,x⟩ i ⟨b,tk,x⟩:=fun i tk x=>step_eps (by unfold eps epsC noteE;simp [hc])
 have s2:∀ i tk x,Pth cd text 1 i ⟨n,tk,x⟩ i ⟨c,tk,x⟩:=fun i tk x=>step_eps (by unfold eps epsC noteE;simp [hc])
 refine ⟨fun a=>?_,fun p h6=>?_⟩
 ·rcases a with a | a
  ·obtain ⟨k,p⟩:=h.comp a
   exact (s1 _ _ _).trans p
  ·obtain ⟨k,p⟩:=h2.comp a
   exact (s2 _ _ _).trans p
 ·obtain ⟨k',e1,q | q⟩:=first_split hc p h6
  ·obtain ⟨k1,j1,t1,x1,l1,a1,p1⟩:=h.sound q h6
   exact ⟨k1,j1,t1,x1,by omega,.inl a1,p1⟩
  ·obtain ⟨k1,j1,t1,x1,l1,a1,p1⟩:=h2.sound q h6
   exact ⟨k1,j1,t1,x1,by omega,.inr a1,p1⟩
end
section
variable {text:ByteArray}
theorem sm_one (m:Nat→Bool):Sm text 1 0 (emOne m) (mOne text m):=by
 refine ⟨fun _ _ _=>rfl,fun n next d N Dm h1 h2 h3=>⟨fun i hi=>?_,by show n < N;omega⟩,fun cd n next d hc=>?_⟩
 ·have e:i=⟨0,next,0,0,d,m⟩:=by simpa [emOne] using hi
  subst e
  exact ⟨by simp,h1,by show 0 < N;omega,by simp,by show d≤Dm;omega,fun q=>by cases q⟩
 ·have h0:cd n=⟨0,next,0,0,d,m⟩:=hc.head
  refine ⟨fun ⟨⟨hl,hm⟩,h1,h2,h3⟩=>⟨1,by rw [h1,h2,h3];exact step_byte h0 hl hm⟩,fun p h6=>?_⟩
  obtain ⟨k',e1,hb,q⟩:=first_byte h0 p h6
  exact ⟨k',_,_,_,by omega,⟨hb,rfl,rfl,rfl⟩,q⟩
theorem sm_edge (k:Nat) (hk:k=1∨k=2):Sm text 1 0 (emEdge k) (fun _=>mEdge text k):=by
 refine ⟨fun _ _ _=>rfl,fun n next d N Dm h1 h2 h3=>⟨fun i hi=>?_,by show n < N;omega⟩,fun cd n next d hc=>?_⟩
 ·have e:i=noIn k next 0 0 0:=by simpa [emEdge] using hi
  subst e
  exact ⟨by show k≤5;omega,h1,by show 0 < N;omega,by simp,by show 0≤Dm;omega,fun q=>by have q:k=3:=q;omega⟩
 ·have h0:cd n=noIn k next 0 0 0:=hc.head
  rcases hk with rfl | rfl
  ·refine ⟨fun {i tk x j tk' x'} hh=>?_,fun p h6=>?_⟩
   ·obtain ⟨h,rfl,rfl,rfl⟩:=hh
    have hi:j=0:=by
     rcases h with ⟨_,h⟩ | ⟨h,_⟩
     ·exact h
     ·omega
    exact ⟨1,step_eps (by show _∈eps cd text j ⟨n,tk',x'⟩;unfold eps epsC noteE;simp [h0,hi])⟩
   ·obtain ⟨k',e1,hb,q⟩:=first_begin h0 p h6
    exact ⟨k',_,_,_,by omega,⟨.inl ⟨rfl,hb⟩,rfl,rfl,rfl⟩,q⟩
  ·refine ⟨fun {i tk x j tk' x'} hh=>?_,fun p h6=>?_⟩
   ·obtain ⟨h,rfl,rfl,rfl⟩:=hh
    have hi:j=text.size:=by
     rcases h with ⟨h,_⟩ | ⟨_,h⟩
     ·omega
     ·exact h
    exact ⟨1,step_eps (by show _∈eps cd text j ⟨n,tk',x'⟩;unfold eps epsC noteE;simp [h0,hi])⟩
   ·obtain ⟨k',e1,hb,q⟩:=first_end h0 p h6
    exact ⟨k',_,_,_,by omega,⟨.inr ⟨rfl,hb⟩,rfl,rfl,rfl⟩,q⟩
theorem sm_group {len dd g:Nat} {em:Em} {M:Nat→Rl} (h:Sm text len dd em M) (hg0:1≤g) (hg:g≤9):Sm text (len+2) dd (emGroup g len em) (fun d=>mGroup g (M d)):=by
 refine ⟨fun n next d=>?_,fun n next d N Dm h1 h2 h3=>?_,fun cd n next d hc=>?_⟩
 ·show ((_::(_++[_])):List In).length=len+2
  rw [List.length_cons,List.length_append,h.lens];rfl
 ·obtain ⟨a1,a2⟩:=h.wf (n+1) n d N Dm (by omega) (by omega) h3
  refine ⟨fun i hi=>?_,by show n+1+len < N;omega⟩
  have hi':i=noIn 3 next 0 (2 * g+1) 0∨i∈(em (n+1) n d).1∨i=noIn 3 (em (n+1) n d).2 0 (2 * g) 0:=by simpa [emGroup] using hi
  rcases hi' with rfl | q | rfl
  ·exact ⟨by simp,h1,by show 0 < N;omega,by show 2 * g+1 < 20;omega,Nat.zero_le _,fun _=>by show 2≤2 * g+1;omega⟩
  ·exact a1 i q
  ·exact ⟨by simp,a2,by show 0 < N;omega,by show 2 * g < 20;omega,Nat.zero_le _,fun _=>by show 2≤2 * g;omega⟩
 ·have hc':AtC cd n (noIn 3 next 0 (2 * g+1) 0::((em (n+1) n d).1++[noIn 3 (em (n+1) n d).2 0 (2 * g) 0])):=hc
  have c1:=hc'.head
  have c2:=h.goes cd (n+1) n d hc'.tail.left
  have c3:cd (n+1+len)=noIn 3 (em (n+1) n d).2 0 (2 * g) 0:=(hc'.tail.right (h.lens _ _ _)).head
  show Goes2 cd text (n+1+len) next _
  refine ⟨fun {i tk x j tk' x'} hh=>?_,fun p h6=>?_⟩
  ·obtain ⟨x2,a,rfl⟩:=hh
   obtain ⟨k,p⟩:=c2.comp a
   have s1:Pth cd text 1 i ⟨n+1+len,tk,x⟩ i ⟨(em (n+1) n d).2,tk,nu x (2 * g) i⟩:=step_eps (by unfold eps epsC noteE;simp [c3])
   have s2:Pth cd text 1 j ⟨n,tk',x2⟩ j ⟨next,tk',nu x2 (2 * g+1) j⟩:=step_eps (by unfold eps epsC noteE;simp [c1])
   obtain ⟨l,q⟩:=s1.trans p
   exact q.trans s2
  ·obtain ⟨k1,e1,q1⟩:=first_note c3 p h6
   obtain ⟨k2,j,t2,x2,l2,a2,q2⟩:=c2.sound q1 h6
   obtain ⟨k3,e3,q3⟩:=first_note c1 q2 h6
   exact ⟨k3,j,t2,_,by omega,⟨x2,a2,rfl⟩,q3⟩
end
section
variable {text:ByteArray}
theorem sm_row:∀ l:List (It×(Nat→Rl)),(∀ p∈l,Sm text p.1.len p.1.dd p.1.em p.2)→Sm text (lenL (l.map (·.1))) (ddL (l.map (·.1))) (emRow (l.map (·.1))) (mRow (l.map (·.2)))
 | [],_=>⟨fun _ _ _=>rfl,fun n next d N Dm h1 _ _=>⟨fun i hi=>(by cases hi),h1⟩,fun cd n next d _=>Goes2.id⟩
 | p::l,h=>by
  have hp:=h p (by simp)
  have ih:=sm_row l (fun q hq=>h q (by simp [hq]))
  refine ⟨fun n next d=>?_,fun n next d N Dm h1 h2 h3=>?_,fun cd n next d hc=>?_⟩
  ·show ((p.1.em n next d).1++_).length=p.1.len+lenL (l.map (·.1))
   rw [List.length_append,hp.lens,ih.lens]
  ·have h2':n+(p.1.len+lenL (l.map (·.1)))≤N:=h2
   have h3':d+max p.1.dd (ddL (l.map (·.1)))≤Dm:=h3
   obtain ⟨a1,a2⟩:=hp.wf n next d N Dm h1 (by omega) (by omega)
   obtain ⟨b1,b2⟩:=ih.wf (n+p.1.len) (p.1.em n next d).2 d N Dm a2 (by omega) (by omega)
   refine ⟨fun i hi=>?_,b2⟩
   rcases List.mem_append.1 (show i∈(p.1.em n next d).1++_ from hi) with q | q
   ·exact a1 i q
   ·exact b1 i q
  ·have hc':AtC cd n ((p.1.em n next d).1++(emRow (l.map (·.1)) (n+p.1.len) (p.1.em n next d).2 d).1):=hc
   exact (ih.goes cd _ _ d (hc'.right (hp.lens _ _ _))).seq (hp.goes cd n next d hc'.left)
theorem moreB_goes:∀ l:List (It×(Nat→Rl)),(∀ p∈l,Sm text p.1.len p.1.dd p.1.em p.2)→∀ (cd:Nat→In) (b n next d:Nat) (B:Rl),Goes2 cd text b next B→AtC cd n (emMoreB (l.map (·.1)) b n next d).1→Goes2 cd text (emMoreB (l.map (·.1)) b n next d).2 next (mBr (l.map (·.2)) B d)
 | [],_,cd,b,n,next,d,B,hb,_=>hb
 | p::l,h,cd,b,n,next,d,B,hb,hc=>by
  have hp:=h p (by simp)
  have hc':AtC cd n ((p.1.em n next d).1++(noIn 4 (p.1.em n next d).2 b 0 0::(emMoreB (l.map (·.1)) (n+p.1.len) (n+p.1.len+1) next d).1)):=hc
  have c2:=hc'.right (hp.lens _ _ _)
  exact moreB_goes l (fun q hq=>h q (by simp [hq])) cd (n+p.1.len) (n+p.1.len+1) next d (mOr (p.2 d) B) (Goes2.or c2.head (hp.goes cd n next d hc'.left) hb) c2.tail
theorem moreB_wf:∀ l:List (It×(Nat→Rl)),(∀ p∈l,Sm text p.1.len p.1.dd p.1.em p.2)→∀ (b n next d N Dm:Nat),b < N→next < N→n+(lenL (l.map (·.1))+l.length)≤N→d+ddL (l.map (·.1))≤Dm →
  (∀ i∈(emMoreB (l.map (·.1)) b n next d).1,i.kind≤5∧i.nx < N∧i.ot < N∧i.sl < 20∧i.dp≤Dm∧(i.kind=3→2≤i.sl))∧(emMoreB (l.map (·.1)) b n next d).2 < N∧(emMoreB (l.map (·.1)) b n next d).1.length=lenL (l.map (·.1))+l.length
 | [],_,b,n,next,d,N,Dm,hb,_,_,_=>⟨fun i hi=>(by cases hi),hb,rfl⟩
 | p::l,h,b,n,next,d,N,Dm,hb,h1,h2,h3=>by
  have hp:=h p (by simp)
  have h2':n+(p.1.len+lenL (l.map (·.1))+(l.length+1))≤N:=h2
  have h3':d+max p.1.dd (ddL (l.map (·.1)))≤Dm:=h3
  obtain ⟨a1,a2⟩:=hp.wf n next d N Dm h1 (by omega) (by omega)
  obtain ⟨b1,b2,b3⟩:=moreB_wf l (fun q hq=>h q (by simp [hq])) (n+p.1.len) (n+p.1.len+1) next d N Dm (by omega) h1 (by omega) (by omega)
  refine ⟨fun i hi=>?_,b2,?_⟩
  ·rcases List.mem_append.1 (show i∈(p.1.em n next d).1++(noIn 4 (p.1.em n next d).2 b 0 0::_) from hi) with q | q
   ·exact a1 i q
   ·rcases List.mem_cons.1 q with rfl | q
    ·exact ⟨by simp,a2,hb,by simp,Nat.zero_le _,fun q=>by cases q⟩
    ·exact b1 i q
  ·show ((p.1.em n next d).1++(_::_)).length=p.1.len+lenL (l.map (·.1))+(l.length+1)
   rw [List.length_append,List.length_cons,hp.lens,b3];omega
def mBranches:List (Nat→Rl)→Nat→Rl
 | [],_=>mId
 | m::ms,d=>mBr ms (m d) d
theorem sm_branches (p:It×(Nat→Rl)) (l:List (It×(Nat→Rl))) (h:∀ q∈p::l,Sm text q.1.len q.1.dd q.1.em q.2):Sm text (lenL ((p::l).map (·.1))+l.length) (ddL ((p::l).map (·.1))) (emBranches ((p::l).map (·.1))) (mBranches ((p::l).map (·.2))):=by
 have hp:=h p (by simp)
 have hl:∀ q∈l,Sm text q.1.len q.1.dd q.1.em q.2:=fun q hq=>h q (by simp [hq])
 refine ⟨fun n next d=>?_,fun n next d N Dm h1 h2 h3=>?_,fun cd n next d hc=>?_⟩
 ·obtain ⟨_,_,b3⟩:=moreB_wf l hl (p.1.em n next d).2 (n+p.1.len) next d ((p.1.em n next d).2+next+(n+p.1.len+(lenL (l.map (·.1))+l.length))+1) (d+ddL (l.map (·.1))) (by omega) (by omega) (by omega) (Nat.le_refl _)
  show ((p.1.em n next d).1++_).length=p.1.len+lenL (l.map (·.1))+l.length
  rw [List.length_append,hp.lens,b3];omega
 ·have h2':n+(p.1.len+lenL (l.map (·.1))+l.length)≤N:=h2
  have h3':d+max p.1.dd (ddL (l.map (·.1)))≤Dm:=h3
  obtain ⟨a1,a2⟩:=hp.wf n next d N Dm h1 (by omega) (by omega)
  obtain ⟨b1,b2,_⟩:=moreB_wf l hl (p.1.em n next d).2 (n+p.1.len) next d N Dm a2 h1 (by omega) (by omega)
  refine ⟨fun i hi=>?_,b2⟩
  rcases List.mem_append.1 (show i∈(p.1.em n next d).1++_ from hi) with q | q
  ·exact a1 i q
  ·exact b1 i q
 ·have hc':AtC cd n ((p.1.em n next d).1++(emMoreB (l.map (·.1)) (p.1.em n next d).2 (n+p.1.len) next d).1):=hc
  exact moreB_goes l hl cd _ _ next d (p.2 d) (hp.goes cd n next d hc'.left) (hc'.right (hp.lens _ _ _))
section
variable {len dd:Nat} {em:Em} {M:Nat→Rl}
theorem times_goes (h:Sm text len dd em M):∀ (k:Nat) (cd:Nat→In) (n next d:Nat),AtC cd n (emTimes len em k n next d).1→Goes2 cd text (emTimes len em k n next d).2 next (mTimes (M d) k)
 | 0,cd,n,next,d,_=>Goes2.id
 | k+1,cd,n,next,d,hc=>by
  have hc':AtC cd n ((em n next d).1++(emTimes len em k (n+len) (em n next d).2 d).1):=hc
  exact (times_goes h k cd (n+len) _ d (hc'.right (h.lens _ _ _))).seq (h.goes cd n next d hc'.left)
theorem times_wf (h:Sm text len dd em M):∀ (k n next d N Dm:Nat),next < N→n+k * len≤N→(k=0∨d+dd≤Dm)→(∀ i∈(emTimes len em k n next d).1,i.kind≤5∧i.nx < N∧i.ot < N∧i.sl < 20∧i.dp≤Dm∧(i.kind=3→2≤i.sl))∧(emTimes len em k n next d).2 < N
 | 0,n,next,d,N,Dm,h1,_,_=>⟨fun i hi=>(by cases hi),h1⟩
 | k+1,n,next,d,N,Dm,h1,h2,h3=>by
  rw [Nat.add_mul,Nat.one_mul] at h2
  obtain ⟨a1,a2⟩:=h.wf n next d N Dm h1 (by omega) (by omega)
  obtain ⟨b1,b2⟩:=times_wf h k (n+len) (em n next d).2 d N Dm a2 (by omega) (by omega)
  refine ⟨fun i hi=>?_,b2⟩
  rcases List.mem_append.1 (show i∈(em n next d).1++_ from hi) with q | q
  ·exact a1 i q
  ·exact b1 i q
theorem upTo_goes (h:Sm text len dd em M):∀ (k:Nat) (cd:Nat→In) (b n next d:Nat) (B:Rl),Goes2 cd text b next B→AtC cd n (emUpTo len em k b n next d).1→Goes2 cd text (emUpTo len em k b n next d).2 next (mUp (M d) k B)
 | 0,cd,b,n,next,d,B,hb,_=>hb
 | k+1,cd,b,n,next,d,B,hb,hc=>by
  have hc':AtC cd n ((em n b d).1++(noIn 4 (em n b d).2 next 0 0::(emUpTo len em k (n+len) (n+len+1) next d).1)):=hc
  have c2:=hc'.right (h.lens _ _ _)
  exact upTo_goes h k cd (n+len) (n+len+1) next d _ (Goes2.or c2.head ((h.goes cd n b d hc'.left).seq hb) Goes2.id) c2.tail
theorem upTo_wf (h:Sm text len dd em M):∀ (k b n next d N Dm:Nat),b < N→next < N→n+k * (len+1)≤N→(k=0∨d+dd≤Dm)→(∀ i∈(emUpTo len em k b n next d).1,i.kind≤5∧i.nx < N∧i.ot < N∧i.sl < 20∧i.dp≤Dm∧(i.kind=3→2≤i.sl))∧(emUpTo len em k b n next d).2 < N
 | 0,b,n,next,d,N,Dm,hb,_,_,_=>⟨fun i hi=>(by cases hi),hb⟩
 | k+1,b,n,next,d,N,Dm,hb,h1,h2,h3=>by
  rw [Nat.add_mul,Nat.one_mul] at h2
  obtain ⟨a1,a2⟩:=h.wf n b d N Dm hb (by omega) (by omega)
  obtain ⟨b1,b2⟩:=upTo_wf h k (n+len) (n+len+1) next d N Dm (by omega) h1 (by omega) (by omega)
  refine ⟨fun i hi=>?_,b2⟩
  rcases List.mem_append.1 (show i∈(em n b d).1++(noIn 4 (em n b d).2 next 0 0::_) from hi) with q | q
  ·exact a1 i q
  ·rcases List.mem_cons.1 q with rfl | q
   ·exact ⟨by simp,a2,h1,by simp,Nat.zero_le _,fun q=>by cases q⟩
   ·exact b1 i q
theorem turns_goes (h:Sm text len dd em M) {cd:Nat→In} {n next d:Nat} (hc:AtC cd n (emTurns em n next d).1):Goes2 cd text n next (mTurns (M (d+1)) d):=by
 have hc':AtC cd n (noIn 4 (em (n+2) (n+1) (d+1)).2 next 0 0::noIn 5 n 0 0 d::(em (n+2) (n+1) (d+1)).1):=hc
 have c0:=hc'.head
 have c1:=hc'.tail.head
 have c2:=h.goes cd (n+2) (n+1) (d+1) hc'.tail.tail
 refine ⟨fun {i tk x j tk' x'} a=>?_,?_⟩
 ·induction a with
  | stop=>exact ⟨1,step_eps (by unfold eps epsC noteE;simp [c0])⟩
  | @turn i0 tk0 i1 t1 j1 tk1 x0 x1 x2 ha ht _ ih=>
   obtain ⟨k,p⟩:=c2.comp ha
   obtain ⟨l,q⟩:=ih
   have s1:Pth cd text 1 i0 ⟨n,tk0,x0⟩ i0 ⟨(em (n+2) (n+1) (d+1)).2,tk0,x0⟩:=step_eps (by unfold eps epsC noteE;simp [c0])
   have s2:Pth cd text 1 i1 ⟨n+1,t1,x1⟩ i1 ⟨n,d,x1⟩:=step_eps (by unfold eps epsC noteE;simp [c1,show ¬ t1≤d by omega])
   obtain ⟨m1,q1⟩:=s1.trans p
   obtain ⟨m2,q2⟩:=q1.trans s2
   exact q2.trans q
 ·have key:∀ (K k i tk:Nat) (x:Nat→Int) (e:Nat) (f:Thr),k≤K→Pth cd text k i ⟨n,tk,x⟩ e f→(cd f.pc).kind=6→∃ k' j tk' x',k'≤k∧mTurns (M (d+1)) d i tk x j tk' x'∧Pth cd text k' j ⟨next,tk',x'⟩ e f:=by
   intro K
   induction K with
   | zero=>
    intro k i tk x e f hk p h6
    obtain ⟨k1,e1,_⟩:=first_split c0 p h6
    omega
   | succ K ih=>
    intro k i tk x e f hk p h6
    obtain ⟨k1,e1,q | q⟩:=first_split c0 p h6
    ·obtain ⟨k2,j2,t2,x2,l2,a2,q2⟩:=c2.sound q h6
     obtain ⟨k3,e3,ht,q3⟩:=first_turn c1 q2 h6
     obtain ⟨k4,j4,t4,x4,l4,a4,q4⟩:=ih k3 j2 d x2 e f (by omega) q3 h6
     exact ⟨k4,j4,t4,x4,by omega,.turn a2 ht a4,q4⟩
    ·exact ⟨k1,i,tk,x,by omega,.stop,q⟩
  exact fun {k i tk x e f} p h6=>key k k i tk x e f (Nat.le_refl _) p h6
def mRep (M:Nat→Rl) (least:Nat):Option Nat→Nat→Rl
 | some m,d=>mSeq (mTimes (M d) least) (mUp (M d) (m - least) mId)
 | none,d=>mSeq (mTimes (M d) least) (mTurns (M (d+1)) d)
theorem sm_rep (h:Sm text len dd em M) (least:Nat) (most:Option Nat) (hok:∀ m,most=some m→least≤m):Sm text (match most with | some m=>(m - least) * (len+1)+least * len | none=>len+2+least * len) (match most with | some m=>if m=0 then 0 else dd | none=>dd+1) (emRep len em least most) (mRep M least most):=by
 cases most with
 | some m=>
  refine ⟨fun n next d=>?_,fun n next d N Dm h1 h2 h3=>?_,fun cd n next d hc=>?_⟩
  ·show (_++_:List In).length=(m - least) * (len+1)+least * len
   rw [List.length_append,lens_upTo h.lens,lens_times h.lens]
  ·have h2':n+((m - least) * (len+1)+least * len)≤N:=h2
   have h3':d+(if m=0 then 0 else dd)≤Dm:=h3
   have hd:m=0∨d+dd≤Dm:=by
    by_cases h0:m=0
    ·exact .inl h0
    ·rw [if_neg h0] at h3';exact .inr h3'
   have hlm:=hok m rfl
   obtain ⟨a1,a2⟩:=upTo_wf h (m - least) next n next d N Dm h1 h1 (by omega) (by omega)
   obtain ⟨b1,b2⟩:=times_wf h least (n+(m - least) * (len+1)) _ d N Dm a2 (by omega) (by omega)
   refine ⟨fun i hi=>?_,b2⟩
   rcases List.mem_append.1 (show i∈(emUpTo len em (m - least) next n next d).1++_ from hi) with q | q
   ·exact a1 i q
   ·exact b1 i q
  ·have hc':AtC cd n ((emUpTo len em (m - least) next n next d).1++(emTimes len em least (n+(m - least) * (len+1)) (emUpTo len em (m - least) next n next d).2 d).1):=hc
   exact (times_goes h least cd _ _ d (hc'.right (lens_upTo h.lens _ _ _ _ _))).seq (upTo_goes h (m - least) cd next n next d mId Goes2.id hc'.left)
 | none=>
  refine ⟨fun n next d=>?_,fun n next d N Dm h1 h2 h3=>?_,fun cd n next d hc=>?_⟩
  ·show ((_::_::_)++_:List In).length=len+2+least * len
   rw [List.length_append,List.length_cons,List.length_cons,h.lens,lens_times h.lens]
  ·have h2':n+(len+2+least * len)≤N:=h2
   have h3':d+(dd+1)≤Dm:=h3
   obtain ⟨a1,a2⟩:=h.wf (n+2) (n+1) (d+1) N Dm (by omega) (by omega) (by omega)
   obtain ⟨b1,b2⟩:=times_wf h least (n+(len+2)) n d N Dm (by omega) (by omega) (by omega)
   refine ⟨fun i hi=>?_,b2⟩
   rcases List.mem_append.1 (show i∈(noIn 4 (em (n+2) (n+1) (d+1)).2 next 0 0::noIn 5 n 0 0 d::(em (n+2) (n+1) (d+1)).1)++(emTimes len em least (n+(len+2)) n d).1 from hi) with q | q
   ·rcases List.mem_cons.1 q with rfl | q
    ·exact ⟨by simp,a2,h1,by simp,Nat.zero_le _,fun q=>by cases q⟩
    ·rcases List.mem_cons.1 q with rfl | q
     ·exact ⟨by simp,by show n < N;omega,by show 0 < N;omega,by simp,by show d≤Dm;omega,fun q=>by cases q⟩
     ·exact a1 i q
   ·exact b1 i q
  ·have hc':AtC cd n ((emTurns em n next d).1++(emTimes len em least (n+(len+2)) (emTurns em n next d).2 d).1):=hc
   have hl:(emTurns em n next d).1.length=len+2:=by show ((_::_::_):List In).length=_;rw [List.length_cons,List.length_cons,h.lens]
   exact (times_goes h least cd _ _ d (hc'.right hl)).seq (turns_goes h hc'.left)
end
end
structure Pi where
 sz:Nat
 len:Nat
 dd:Nat
 em:Em
def It.Is (i:It) (p:Pi):Prop:=i.sz=p.sz∧i.len=p.len∧i.dd=p.dd∧i.em=p.em
def ReadsN (src:ByteArray) (fr G:Nat) (p:Pi):Prop:=∀ (w:World) (b:Nat),b≠4→Rd w b src fr 0→Nm w →
 Calls Tryz.prog 111 #[.pointer (some ⟨b,0,none⟩)] w fun e w'=>∃ i:It,e=.returned i.v∧i.tv=302∧i.Is p∧(∃ lo hi,hi≤w'.heap.size∧Nd lo hi w' i)∧Rd w' b src src.size G∧Kp [b] w w'
def codeOf (p:Pi):List In:=noIn 6 0 0 0 0::(p.em 1 0 0).1
def cdL (l:List In) (a:Nat):In:=(l[a]?).getD (noIn 6 0 0 0 0)
theorem flat_six:flatI [noIn 6 0 0 0 0]=ins0 6 0 0 0 0:=by
 rw [flatI_one]
 unfold insI
 rw [ins0_eq]
 rfl
theorem ok_fst {a b:FuncId} {v u:Value} {w w':World} (h:(Result.ok (a,v) w:Result (FuncId×Value))=.ok (b,u) w'):a=b:=by
 injection h with q _
 exact (Prod.mk.inj q).1
theorem reads_node {src:ByteArray} {fr G:Nat} {p:Pi} (h:ReadsN src fr G p) (hsz:p.sz≤300) (hlen:1+p.len≤1000):Reads src fr G (1+p.len) ((p.em 1 0 0).2:Nat) p.dd (flatI (codeOf p)):=by
 intro w b hb hr hw
 refine (h w b hb hr hw).mono ?_
 rintro e w1 ⟨i,rfl,htv,⟨e1,e2,e3,e4⟩,⟨lo,hi,hhi,nd⟩,r1,k1⟩
 obtain ⟨fs,m1,_,cs⟩:=nd.sized
 obtain ⟨fe,m3,_,ce⟩:=nd.emits
 have q1:=m1 w1
 have q2:=m3 w1
 rw [htv] at q1 q2
 have hfs:fs=308:=by
  have:=q1.symm.trans (size_of_branches i.xv w1)
  exact ok_fst this
 have hfe:fe=307:=by
  have:=q2.symm.trans (emit_of_branches i.xv w1)
  exact ok_fst this
 subst hfs hfe
 refine ⟨i.xv,p.sz,by unfold It.v;rw [htv],r1,k1,hsz,fun w2 k2=>?_,fun w2 L k2 hL w4 b4 l4=>?_⟩
 ·have:=cs w2 ((Same.refl lo hhi).kp k2)
  rw [e1] at this
  exact this
 ·have hs4:Same lo hi w1 w4:=((Same.refl lo hhi).kp k2).below b4 (Nat.le_trans hhi hL)
  rw [←flat_six] at l4
  refine (ce w4 L 1 _ 0 0 0 hs4 (Nat.le_trans hhi hL) (by omega) (by omega) (by omega) l4).mono ?_
  rintro e w5 ⟨rfl,l5,b5,_⟩
  rw [e2,e3,e4] at l5
  refine ⟨by rw [e4],?_,b5⟩
  have hdd:max 0 (up 0 p.dd)=p.dd:=by unfold up;split <;> omega
  rw [hdd] at l5
  exact l5
theorem cdL_at {l:List In} {a:Nat} (h:a < l.length):l[a]? = some (cdL l a):=by
 unfold cdL;rw [List.getElem?_eq_getElem h];rfl
theorem cd_node {text:ByteArray} {p:Pi} {M:Nat→Rl} (hm:Sm text p.len p.dd p.em M) {B:Nat} {w:World} {q G:Nat} {bg:Int} (pt:PtR B w q (1+p.len) bg G p.dd (flatI (codeOf p))) :
  ∃ g c,Cd w q g c (1+p.len) p.dd (cdL (codeOf p)):=by
 obtain ⟨g,c,h1,h2⟩:=pt.code
 have hl:=(h2.lt g rfl).2
 have hcl:(codeOf p).length=1+p.len:=by unfold codeOf;rw [List.length_cons,hm.lens];omega
 have cell:∀ a,a < 1+p.len→∀ j,j < 9→w.cell? ⟨g,a * 9+j,none⟩=(insI (cdL (codeOf p) a))[j]?:=fun a ha j hj=>by
  rw [h2.cellAt (a * 9+j) (by omega),flatI_at _ a _ (cdL_at (by omega)) j hj]
 obtain ⟨wf1,_⟩:=hm.wf 1 0 0 (1+p.len) p.dd (by omega) (by omega) (by omega)
 refine ⟨g,c,⟨pt.lt,hl,h1,pt.c3,fun a ha=>cell a ha 0 (by omega),fun a ha=>cell a ha 1 (by omega),fun a ha=>cell a ha 2 (by omega),fun a ha=>cell a ha 3 (by omega),fun a ha=>cell a ha 4 (by omega),fun a ha=>cell a ha 5 (by omega),fun a ha=>cell a ha 6 (by omega),fun a ha=>cell a ha 7 (by omega),fun a ha=>cell a ha 8 (by omega),fun a ha=>?_⟩⟩
 match a,ha with
 | 0,_=>exact ⟨by simp [cdL,codeOf],by simp [cdL,codeOf];omega,by simp [cdL,codeOf];omega,by simp [cdL,codeOf],by simp [cdL,codeOf]⟩
 | a+1,ha=>
  have hm2:cdL (codeOf p) (a+1)∈(p.em 1 0 0).1:=by
   have:(p.em 1 0 0).1[a]? = some (cdL (codeOf p) (a+1)):=by
    have:=cdL_at (l:=codeOf p) (a:=a+1) (by omega)
    simpa [codeOf] using this
   exact List.mem_of_getElem? this
  obtain ⟨a1,a2,a3,a4,a5,_⟩:=wf1 _ hm2
  exact ⟨by omega,a2,a3,a4,a5⟩
