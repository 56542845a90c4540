import Derived.Test.YtiahkfoojjpaaaaGreatDoorT47
set_option maxRecDepth 100000
set_option maxHeartbeats 16000000
set_option linter.all false
namespace Go.Proofs.YtiahkfoojjpaaaaGreatDoor
open Go.RowKit
section
variable {o d:List UInt8} {u v u1 u2:Ust} {t:List UInt8} {q:Bool} {n:Nat} {S:fj}
def Ust.sup (wn:Wn) (C:List UInt8×Option (List UInt8)) (u:Ust):Except (Nat×Ust) (Option Ust):=
 if 1000 < C.1.length then .error (9,u)
 else if u.there then
  match wn with
  | .gw=>.ok (some { u with left:=C.2.getD [],number:=u.number+1,aH:=.no,space:=C.1 })
  | .gm=>if 4000 < (u.space++10::C.1).length then .error (8,{ u with left:=C.2.getD [],number:=u.number+1,aH:=.no }) else .ok (some { u with left:=C.2.getD [],number:=u.number+1,aH:=.no,space:=u.space++10::C.1 })
  | _=>.ok (some (({ u with left:=C.2.getD [],number:=u.number+1,aH:=.no,steps:=0 }:Ust).oZ C.1))
 else .ok none
theorem iR (u:Ust):u.aI=if u.aH=.no then .ok (some u) else u.sup u.aH (cutL u.left):=by
 unfold Ust.aI Ust.sup
 cases hw:u.aH with
 | no=>rfl
 | bw=>rfl
 | gw=>rfl
 | gm=>
  rw [Nr (show ¬ Wn.gm=Wn.no by decide)];dsimp only;split
  .rfl
  .split
   .unfold Ust.gM;dsimp only;by_cases hj:4000 < (u.space++10::(cutL u.left).1).length
    .rw [Ny hj,Ny hj]
    .rw [Nr hj,Nr hj]
   .rfl
end
section
variable {o d:List UInt8} {u v u1 u2:Ust} {S:fj}
theorem Fv (hP:pd S):∀ (k k':Nat) (u:Ust),lV S u->u.Ea S.aE.length < k->u.Ea S.aE.length < k'->Ust.runF S k u=Ust.runF S k' u
 | 0,_,_,_,h1,_=>absurd h1 (by omega)
 | _+1,0,_,_,_,h2=>absurd h2 (by omega)
 | k+1,k'+1,u,h,h1,h2=>by
  unfold Ust.runF;split
  .rfl
  .cases hs:u.aI with
   | error e=>rfl
   | ok x=>
    cases x with
    | none=>rfl
    | some u1=>
     dsimp only
     cases hl:u1.look S with
     | error e=>rfl
     | ok u2=>
      dsimp only;obtain ⟨i2,m2⟩:=nY hP h hs hl;exact Fv hP k k' u2 i2 (by omega) (by omega)
theorem run_by (hP:pd S) {k:Nat} (h:lV S u) (hk:u.Ea S.aE.length < k):u.run S=MC (Ust.runF S k u):=by
 rw [uQ,Fv hP (u.fuel S) k u h (Hg _ u S rfl) hk]
end
section
variable {o d:List UInt8} {u v u1 u2:Ust} {S:fj}
theorem Lm (ho:u.over=false):u.feed S d=(({ u with left:=u.left++d }:Ust).run S).jW:=by
 unfold Ust.feed;rw [Nr (by rw [ho];simp)]
theorem lV.more (h:lV S u) (hb:u.left.length+d.length+u.number<=281474976710656):lV S { u with left:=u.left++d }:=by
 have k:=h.ok.ok;exact ⟨⟨⟨k.sp,k.hd,k.ct,k.ot,k.fb,k.bt,k.bl,by show (u.left++d).length+u.number<=_;rw [Nu];omega⟩,h.ok.fb,h.ok.rg,h.ok.pc,h.ok.st⟩,h.bs,h.bw⟩
end
