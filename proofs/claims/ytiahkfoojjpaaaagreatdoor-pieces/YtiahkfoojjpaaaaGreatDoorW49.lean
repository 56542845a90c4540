/- What the claim needs of: XW XX XY HU. -/
import Derived.Test.YtiahkfoojjpaaaaGreatDoorW47
set_option maxRecDepth 100000
set_option maxHeartbeats 16000000
set_option linter.unusedVariables false
set_option linter.unusedSimpArgs false
namespace Go.Proofs.YtiahkfoojjpaaaaGreatDoor
open Go.RowKit
def Ust.fr (o d:List UInt8) (u:Ust):Ust:={ u with left:=u.left++d,out:=o++u.out }
def frR (o d:List UInt8):RU->RU
 | .error (E,u)=>.error (E,u.fr o d)
 | .ok u=>.ok (u.fr o d)
section
variable {o d:List UInt8} {u:Ust} {t:List UInt8} {q:Bool}
def dH (d:List UInt8) (u:Ust):Prop:=(u.fr [] d).none_=u.none_
theorem zg (h:dH d u):(u.fr o d).none_=u.none_:=h
theorem gO:(u.fr o d).tell t=frR o d (u.tell t):=by
 unfold Ust.tell;show (if 200000 < u.count+t.length+1 then _ else _)=_;split
 .rfl
 .show Except.ok _=Except.ok _
  congr 1
  show ({ u with left:=u.left++d,count:=u.count+t.length+1,out:=o++u.out++t++[10] }:Ust)={ u with left:=u.left++d,count:=u.count+t.length+1,out:=o++(u.out++t++[10]) };rw [Nz,Nz,Nz]
theorem AB {i:Nat}:(u.fr o d).write i t=frR o d (u.write i t):=by
 unfold Ust.write;show (if 200000 < u.count+t.length+1 then _ else _)=_;split <;> rfl
theorem AO:∀ (l:List (List UInt8)) (u:Ust),Ust.tellL l (u.fr o d)=frR o d (Ust.tellL l u)
 | [],u=>rfl
 | t::l,u=>by
  unfold Ust.tellL;rw [gO]
  cases u.tell t with
  | error e=>rfl
  | ok u1=>exact AO l u1
theorem gK:(u.fr o d).brought=frR o d u.brought:=by
 rw [fO,fO];show Kj (Ust.tellL u.br (u.fr o d))=_;rw [AO]
 cases Ust.tellL u.br u <;> rfl
theorem pZ:(u.fr o d).dt q=frR o d (u.dt q):=by
 unfold Ust.dt
 cases q
 .show (match (u.fr o d).tell u.space with | .error e=>.error e | .ok u1=>u1.brought:RU)=frR o d (match u.tell u.space with | .error e=>.error e | .ok u1=>u1.brought);rw [gO]
  cases u.tell u.space with
  | error e=>rfl
  | ok u1=>exact gK
 .exact gK
theorem oW:(u.fr o d).di q=frR o d (u.di q):=by
 unfold Ust.di;rw [pZ]
 cases u.dt q <;> rfl
theorem gk:(u.fr o d).aA=frR o d u.aA:=by
 unfold Ust.aA;rw [gK]
 cases u.brought <;> rfl
theorem oX {st:Nat}:(u.fr o d).eI q st=frR o d (u.eI q st):=by
 unfold Ust.eI;rw [oW]
 cases u.di q <;> rfl
theorem yh {c:du}:fu c (u.fr o d)=frR o d (fu c u):=by
 unfold fu;split
 .rfl
 .exact AB
theorem CY {c:du}:(u.fr o d).replace c=frR o d (u.replace c):=by
 rw [fM,fM];show (match jb c u.space with | none=>.ok (u.fr o d) | some t=>if 4000 < t.length then .error (8,u.fr o d) else MT c (if c.print then (({ u with space:=t,fE:=true }:Ust).fr o d).tell t else .ok (({ u with space:=t,fE:=true }:Ust).fr o d)):RU)=_
 cases jb c u.space with
 | none=>rfl
 | some t=>
  dsimp only;split
  .rfl
  .split
   .rw [gO]
    cases ({ u with space:=t,fE:=true }:Ust).tell t with
    | error e=>rfl
    | ok u1=>exact yh
   .exact yh
theorem BQ {a b:List UInt8} {f:List UInt8->Ust} {g:List UInt8->Ust} (h:∀ t,g t=(f t).fr o d):Ust.gB a b g (u.fr o d)=frR o d (Ust.gB a b f u):=by
 unfold Ust.gB;split
 .rfl
 .rw [h];rfl
theorem deed_fr {c:du} (h:dH d u):(u.fr o d).iq q c=frR o d (u.iq q c):=by
 unfold Ust.iq;by_cases x123:c.what=123
 .rw [Nj x123,Nj x123];exact rfl
 rw [Nh x123,Nh x123];by_cases x98:c.what=98
 .rw [Nj x98,Nj x98];exact rfl
 rw [Nh x98,Nh x98];by_cases x116:c.what=116
 .rw [Nj x116,Nj x116];by_cases hr:u.fE=true
  .rw [Nj hr,Nj (show (u.fr o d).fE=true from hr)]
   rfl
  .rw [Nh hr,Nh (show ¬ (u.fr o d).fE=true from hr)]
   rfl
 rw [Nh x116,Nh x116];by_cases x97:c.what=97
 .rw [Nj x97,Nj x97];exact rfl
 rw [Nh x97,Nh x97];by_cases x105:c.what=105
 .rw [Nj x105,Nj x105];exact gO
 rw [Nh x105,Nh x105];by_cases x99:c.what=99
 .rw [Nj x99,Nj x99];show (match (if c.gL.length=2/\c.neg=false/\u.rg.getD c.range false=true then .ok (u.fr o d) else (u.fr o d).tell c.text.plain:RU) with | .error e=>.error e | .ok u1=>u1.aA:RU)=frR o d (match (if c.gL.length=2/\c.neg=false/\u.rg.getD c.range false=true then .ok u else u.tell c.text.plain:RU) with | .error e=>.error e | .ok u1=>u1.aA);by_cases hq:c.gL.length=2/\c.neg=false/\u.rg.getD c.range false=true
  .rw [Nj hq,Nj hq];exact gk
  .rw [Nh hq,Nh hq,gO]
   cases u.tell c.text.plain with
   | error e=>rfl
   | ok u1=>exact gk
 rw [Nh x99,Nh x99];by_cases x115:c.what=115
 .rw [Nj x115,Nj x115];exact CY
 rw [Nh x115,Nh x115];by_cases x121:c.what=121
 .rw [Nj x121,Nj x121];exact rfl
 rw [Nh x121,Nh x121];by_cases x100:c.what=100
 .rw [Nj x100,Nj x100];exact gk
 rw [Nh x100,Nh x100];by_cases x68:c.what=68
 .rw [Nj x68,Nj x68];show (match (cutL u.space).2 with | none=>(u.fr o d).aA | some rest=>match (u.fr o d).brought with | .error e=>.error e | .ok u1=>.ok (u1.jO rest):RU)=frR o d (match (cutL u.space).2 with | none=>u.aA | some rest=>match u.brought with | .error e=>.error e | .ok u1=>.ok (u1.jO rest))
  cases (cutL u.space).2 with
  | none=>exact gk
  | some rest=>
   dsimp only;rw [gK]
   cases u.brought <;> rfl
 rw [Nh x68,Nh x68];by_cases x103:c.what=103
 .rw [Nj x103,Nj x103];exact rfl
 rw [Nh x103,Nh x103];by_cases x71:c.what=71
 .rw [Nj x71,Nj x71];exact BQ (fun _=>rfl)
 rw [Nh x71,Nh x71];by_cases x104:c.what=104
 .rw [Nj x104,Nj x104];exact rfl
 rw [Nh x104,Nh x104];by_cases x72:c.what=72
 .rw [Nj x72,Nj x72];exact BQ (fun _=>rfl)
 rw [Nh x72,Nh x72];by_cases x120:c.what=120
 .rw [Nj x120,Nj x120];exact rfl
 rw [Nh x120,Nh x120];by_cases x110:c.what=110
 .rw [Nj x110,Nj x110];rw [zg h];split
  .exact oX
  .rw [pZ]
   cases u.dt q <;> rfl
 rw [Nh x110,Nh x110];by_cases x78:c.what=78
 .rw [Nj x78,Nj x78];rw [zg h];split
  .exact oX
  .rw [gK]
   cases u.brought <;> rfl
 rw [Nh x78,Nh x78];by_cases x112:c.what=112
 .rw [Nj x112,Nj x112];exact gO
 rw [Nh x112,Nh x112];by_cases x80:c.what=80
 .rw [Nj x80,Nj x80];exact gO
 rw [Nh x80,Nh x80];by_cases x108:c.what=108
 .rw [Nj x108,Nj x108];exact gO
 rw [Nh x108,Nh x108];by_cases x61:c.what=61
 .rw [Nj x61,Nj x61];exact gO
 rw [Nh x61,Nh x61];by_cases x113:c.what=113
 .rw [Nj x113,Nj x113];exact oX
 rw [Nh x113,Nh x113];by_cases x119:c.what=119
 .rw [Nj x119,Nj x119];exact AB
 rw [Nh x119,Nh x119]
 rfl
theorem lu {a:fZ} (h:dH d u):(u.fr o d).says a=u.says a:=by
 cases a with
 | num n=>rfl
 | last=>exact zg h
 | pat p=>rfl
theorem yi {c:du} (h:dH d u):(u.fr o d).addressed c=((u.addressed c).1,(u.addressed c).2.fr o d):=by
 unfold Ust.addressed;split
 .rfl
 .rw [lu h]
 .rename_i a b l _;unfold Ust.ranged
  cases b with
  | num n=>
   dsimp only;rw [lu h]
   rfl
  | last=>
   dsimp only;rw [lu h,lu h];by_cases hr:u.rg.getD c.range false=true
   .rw [Nj hr,Nj (show (u.fr o d).rg.getD c.range false=true from hr)]
    rfl
   .rw [Nh hr,Nh (show ¬ (u.fr o d).rg.getD c.range false=true from hr)]
    rfl
  | pat p=>
   dsimp only;rw [lu h,lu h];by_cases hr:u.rg.getD c.range false=true
   .rw [Nj hr,Nj (show (u.fr o d).rg.getD c.range false=true from hr)]
    rfl
   .rw [Nh hr,Nh (show ¬ (u.fr o d).rg.getD c.range false=true from hr)]
    rfl
noncomputable def Ust.Dy (S:eF) (c:du) (u2:Ust):RU:=
 if 2000 < u2.steps then .error (7,u2)
 else if (u2.addressed c).1 != c.neg then (u2.addressed c).2.iq S.quiet c else if c.what=123 then .ok { (u2.addressed c).2 with pc:=c.goal } else .ok (u2.addressed c).2
theorem iQ {c:du}:(u.addressed c).2.left=u.left/\(u.addressed c).2.ended=u.ended:=by
 obtain ⟨rg,e,_⟩:=eZ u c;rw [e];exact ⟨rfl,rfl⟩
theorem dH.of {v:Ust} (h:dH d u) (h1:v.left=u.left) (h2:v.ended=u.ended):dH d v:=by
 unfold dH Ust.none_ at h ⊢;show (v.ended && (v.left++d).isEmpty)=_;rw [h1,h2];exact h
theorem Kt {S:eF} {c:du} (h:dH d u):(u.fr o d).Dy S c=frR o d (u.Dy S c):=by
 unfold Ust.Dy;rw [yi h];dsimp only;by_cases hs:2000 < u.steps
 .rw [Nj hs,Nj (show 2000 < (u.fr o d).steps from hs)]
  rfl
 .rw [Nh hs,Nh (show ¬ 2000 < (u.fr o d).steps from hs)];by_cases hb:((u.addressed c).1 != c.neg)=true
  .rw [Nj hb,Nj hb];exact deed_fr (h.of iQ.1 iQ.2)
  .rw [Nh hb,Nh hb];by_cases hc:c.what=123
   .rw [Nj hc,Nj hc]
    rfl
   .rw [Nh hc,Nh hc]
    rfl
theorem tm (S:eF) (u:Ust):u.look S=match S.aH[u.pc]? with
 | none=>u.di S.quiet
 | some c=>if c.what=125\/c.what=58 then .ok { u with pc:=u.pc+1 } else ({ u with pc:=u.pc+1,steps:=u.steps+1 }:Ust).Dy S c:=rfl
theorem Hh {S:eF} (h:dH d u):(u.fr o d).look S=frR o d (u.look S):=by
 rw [tm,tm];show (match S.aH[u.pc]? with | none=>_ | some c=>_)=_
 cases S.aH[u.pc]? with
 | none=>exact oW
 | some c=>
  dsimp only;by_cases hpl:c.what=125\/c.what=58
  .rw [Nj hpl,Nj hpl]
   rfl
  .rw [Nh hpl,Nh hpl];exact Kt (u:={ u with pc:=u.pc+1,steps:=u.steps+1 }) h
end
def ErrB (n:Nat) (v:Ust):Prop:=v.out.length<=200000/\v.fb.length=n/\∀ t∈v.fb,t.length<=200000
def CE (n:Nat):RU->Prop
 | .error (_,v)=>ErrB n v
 | .ok _=>True
section
variable {o d:List UInt8} {u:Ust} {t:List UInt8} {q:Bool} {n:Nat}
theorem jh (h:UOk u) (hn:u.fb.length=n):ErrB n u:=⟨Nq h.ot h.ct,hn,fun t ht=>Nq (h.fb t ht) h.ct⟩
theorem fI (h:UOk u) (hn:u.fb.length=n):CE n (u.tell t):=by
 unfold Ust.tell;have k:=jh h hn;split
 .exact ⟨k.1,k.2.1,k.2.2⟩
 .trivial
theorem xL {i:Nat} (h:UOk u) (hn:u.fb.length=n):CE n (u.write i t):=by
 unfold Ust.write;have k:=jh h hn;split
 .exact ⟨k.1,k.2.1,k.2.2⟩
 .trivial
theorem xM:∀ (l:List (List UInt8)) (u:Ust),UOk u->u.fb.length=n->CE n (Ust.tellL l u)
 | [],u,_,_=>trivial
 | t::l,u,h,hn=>by
  unfold Ust.tellL;have A:=fI (t:=t) h hn
  cases h1:u.tell t with
  | error e=>rw [h1] at A;exact A
  | ok u1=>exact xM l u1 (h.tell h1).1 ((eD h h1).1.fb.trans hn)
theorem fS (h:UOk u) (hn:u.fb.length=n):CE n u.brought:=by
 rw [fO];have A:=xM u.br u h hn
 cases h1:Ust.tellL u.br u with
 | error e=>rw [h1] at A;exact A
 | ok u1=>trivial
theorem oV (h:UOk u) (hn:u.fb.length=n):CE n (u.dt q):=by
 unfold Ust.dt
 cases q
 .show CE n (match u.tell u.space with | .error e=>.error e | .ok u1=>u1.brought);have A:=fI (t:=u.space) h hn
  cases h1:u.tell u.space with
  | error e=>rw [h1] at A;exact A
  | ok u1=>exact fS (h.tell h1).1 ((eD h h1).1.fb.trans hn)
 .exact fS h hn
theorem lW (h:UOk u) (hn:u.fb.length=n):CE n (u.di q):=by
 unfold Ust.di;have A:=oV (q:=q) h hn
 cases h1:u.dt q with
 | error e=>rw [h1] at A;exact A
 | ok u1=>trivial
theorem fJ (h:UOk u) (hn:u.fb.length=n):CE n u.aA:=by
 unfold Ust.aA;have A:=fS h hn
 cases h1:u.brought with
 | error e=>rw [h1] at A;exact A
 | ok u1=>trivial
theorem lK {st:Nat} (h:UOk u) (hn:u.fb.length=n):CE n (u.eI q st):=by
 unfold Ust.eI;have A:=lW (q:=q) h hn
 cases h1:u.di q with
 | error e=>rw [h1] at A;exact A
 | ok u1=>trivial
theorem qM {c:du} (h:UOk u) (hn:u.fb.length=n):CE n (fu c u):=by
 unfold fu;split
 .trivial
 .exact xL h hn
theorem zK {c:du} (h:UOk u) (hn:u.fb.length=n):CE n (u.replace c):=by
 rw [fM]
 cases jb c u.space with
 | none=>trivial
 | some t=>
  dsimp only;by_cases hl:4000 < t.length
  .rw [Nj hl];exact jh h hn
  .rw [Nh hl];have h2:UOk ({ u with space:=t,fE:=true }:Ust):=⟨by show t.length<=4000;omega,h.hd,h.ct,h.ot,h.fb,h.bt,h.bl,h.lf⟩
   cases c.print with
   | true=>
    rw [Nj rfl];have A:=fI (t:=t) (n:=n) h2 hn
    cases h1:({ u with space:=t,fE:=true }:Ust).tell t with
    | error e=>rw [h1] at A;exact A
    | ok u1=>exact qM (h2.tell h1).1 ((eD h2 h1).1.fb.trans hn)
   | false=>
    rw [Nh (by simp)];exact qM h2 hn
theorem xO {a b:List UInt8} {f:List UInt8->Ust} (h:UOk u) (hn:u.fb.length=n):CE n (Ust.gB a b f u):=by
 unfold Ust.gB;split
 .exact jh h hn
 .trivial
theorem Lm {c:du} (h:UOk u) (hn:u.fb.length=n):CE n (u.iq q c):=by
 unfold Ust.iq;by_cases x123:c.what=123
 .rw [Nj x123];exact trivial
 rw [Nh x123];by_cases x98:c.what=98
 .rw [Nj x98];exact trivial
 rw [Nh x98];by_cases x116:c.what=116
 .rw [Nj x116];exact trivial
 rw [Nh x116];by_cases x97:c.what=97
 .rw [Nj x97];exact trivial
 rw [Nh x97];by_cases x105:c.what=105
 .rw [Nj x105];exact fI h hn
 rw [Nh x105];by_cases x99:c.what=99
 .rw [Nj x99];by_cases hq:c.gL.length=2/\c.neg=false/\u.rg.getD c.range false=true
  .rw [Nj hq];exact fJ h hn
  .rw [Nh hq];have A:=fI (t:=c.text.plain) h hn
   cases h1:u.tell c.text.plain with
   | error e=>rw [h1] at A;exact A
   | ok u1=>exact fJ (h.tell h1).1 ((eD h h1).1.fb.trans hn)
 rw [Nh x99];by_cases x115:c.what=115
 .rw [Nj x115];exact zK h hn
 rw [Nh x115];by_cases x121:c.what=121
 .rw [Nj x121];exact trivial
 rw [Nh x121];by_cases x100:c.what=100
 .rw [Nj x100];exact fJ h hn
 rw [Nh x100];by_cases x68:c.what=68
 .rw [Nj x68]
  cases (cutL u.space).2 with
  | none=>exact fJ h hn
  | some rest=>
   dsimp only;have A:=fS h hn
   cases h1:u.brought with
   | error e=>rw [h1] at A;exact A
   | ok u1=>trivial
 rw [Nh x68];by_cases x103:c.what=103
 .rw [Nj x103];exact trivial
 rw [Nh x103];by_cases x71:c.what=71
 .rw [Nj x71];exact xO h hn
 rw [Nh x71];by_cases x104:c.what=104
 .rw [Nj x104];exact trivial
 rw [Nh x104];by_cases x72:c.what=72
 .rw [Nj x72];exact xO h hn
 rw [Nh x72];by_cases x120:c.what=120
 .rw [Nj x120];exact trivial
 rw [Nh x120];by_cases x110:c.what=110
 .rw [Nj x110];split
  .exact lK h hn
  .have A:=oV (q:=q) h hn
   cases h1:u.dt q with
   | error e=>rw [h1] at A;exact A
   | ok u1=>trivial
 rw [Nh x110];by_cases x78:c.what=78
 .rw [Nj x78];split
  .exact lK h hn
  .have A:=fS h hn
   cases h1:u.brought with
   | error e=>rw [h1] at A;exact A
   | ok u1=>trivial
 rw [Nh x78];by_cases x112:c.what=112
 .rw [Nj x112];exact fI h hn
 rw [Nh x112];by_cases x80:c.what=80
 .rw [Nj x80];exact fI h hn
 rw [Nh x80];by_cases x108:c.what=108
 .rw [Nj x108];exact fI h hn
 rw [Nh x108];by_cases x61:c.what=61
 .rw [Nj x61];exact fI h hn
 rw [Nh x61];by_cases x113:c.what=113
 .rw [Nj x113];exact lK h hn
 rw [Nh x113];by_cases x119:c.what=119
 .rw [Nj x119];exact xL h hn
 rw [Nh x119]
 trivial
theorem Ll {S:eF} (h:UOk u) (hn:u.fb.length=n):CE n (u.look S):=by
 rw [tm]
 cases S.aH[u.pc]? with
 | none=>exact lW h hn
 | some c=>
  dsimp only;by_cases hpl:c.what=125\/c.what=58
  .rw [Nj hpl]
   trivial
  .rw [Nh hpl];have h2:UOk ({ u with pc:=u.pc+1,steps:=u.steps+1 }:Ust):=⟨h.sp,h.hd,h.ct,h.ot,h.fb,h.bt,h.bl,h.lf⟩;obtain ⟨u2,hu2⟩:∃ u2:Ust,u2={ u with pc:=u.pc+1,steps:=u.steps+1 }:=⟨_,rfl⟩;have hn2:u2.fb.length=n:=by rw [hu2];exact hn
   rw [<-hu2] at h2 ⊢;unfold Ust.Dy;by_cases hs:2000 < u2.steps
   .rw [Nj hs];exact jh h2 hn2
   .rw [Nh hs];obtain ⟨rg,e,_⟩:=eZ u2 c;rw [e];dsimp only;split
    .exact Lm ⟨h2.sp,h2.hd,h2.ct,h2.ot,h2.fb,h2.bt,h2.bl,h2.lf⟩ hn2
    .split <;> trivial
theorem xN {v:Ust} {E:Nat} (h:UOk u) (hn:u.fb.length=n) (e:u.aD=.error (E,v)):ErrB n v:=by
 have k:=jh h hn;unfold Ust.aD at e
 cases hw:u.aI with
 | no=>rw [hw] at e;cases e
 | bw=>
  rw [hw] at e;dsimp only at e;split at e
  .injection e with e;injection e with e1 e2;rw [<-e2];exact k
  .split at e <;> cases e
 | gw=>
  rw [hw] at e;dsimp only at e;split at e
  .injection e with e;injection e with e1 e2;rw [<-e2];exact k
  .split at e <;> cases e
 | gm=>
  rw [hw] at e;dsimp only at e;split at e
  .injection e with e;injection e with e1 e2;rw [<-e2];exact k
  .split at e
   .unfold Ust.gB at e;split at e
    .rename_i e0 hj;split at hj
     .injection hj with hj;rw [<-hj] at e;injection e with e;injection e with e1 e2;rw [<-e2];exact k
     .cases hj
    .cases e
   .cases e
theorem Ci {S:eF} (hP:fY S):∀ (k:Nat) (u:Ust) (E:Nat) (v:Ust),iR S u->Ust.runF S k u=.error (E,v)->ErrB S.names.length v
 | 0,u,E,v,h,e=>by cases e
 | k+1,u,E,v,h,e=>by
  unfold Ust.runF at e;split at e
  .cases e
  .split at e
   .rename_i e1 h1;injection e with e;subst e;exact xN h.ok.ok h.ok.fb h1
   .cases e
   .rename_i u1 h1;obtain ⟨i1,i2,_⟩:=eV h h1;split at e
    .rename_i e2 h2;injection e with e;subst e;have A:=Ll (S:=S) i1.ok.ok i1.ok.fb;rw [h2] at A;exact A
    .rename_i u2 h2;exact Ci hP k u2 E v (fP hP h h1 h2).1 e
theorem rI {S:eF} (hP:fY S) (h:iR S u):ErrB S.names.length (u.run S):=by
 rw [lQ]
 cases hr:Ust.runF S (u.fuel S) u with
 | error q=>
  obtain ⟨E,v⟩:=q;exact Ci hP _ u E v h hr
 | ok v=>
  have k:=rJ hP _ u v h hr;exact jh k.ok.ok k.ok.fb
end
section
variable {o d:List UInt8} {u v u1 u2:Ust} {t:List UInt8} {q:Bool} {n:Nat} {S:eF}
theorem Hi (hP:fY S) (h:iR S u) (e:u.look S=.ok u2):u2.ended=u.ended/\u2.number=u.number/\u2.ahead=u.ahead:=by
 rw [tm] at e
 cases hcm:S.aH[u.pc]? with
 | none=>
  rw [hcm] at e;exact ⟨(eY h.ok.ok e).1.en,(eY h.ok.ok e).1.nm,(eY h.ok.ok e).1.ah⟩
 | some c=>
  rw [hcm] at e;have hm:c∈S.aH:=NH hcm;have hlt:=(List.getElem?_eq_some_iff.1 hcm).1;dsimp only at e;by_cases hpl:c.what=125\/c.what=58
  .rw [Nj hpl] at e;injection e with e;rw [<-e];exact ⟨rfl,rfl,rfl⟩
  .rw [Nh hpl] at e;have hk:=h.ok.ok;have h2:UOk ({ u with pc:=u.pc+1,steps:=u.steps+1 }:Ust):=⟨hk.sp,hk.hd,hk.ct,hk.ot,hk.fb,hk.bt,hk.bl,hk.lf⟩;obtain ⟨u3,hu3⟩:∃ u3:Ust,u3={ u with pc:=u.pc+1,steps:=u.steps+1 }:=⟨_,rfl⟩;rw [<-hu3] at h2 e;have e3:u3.ended=u.ended:=by rw [hu3]
   have b3:u3.br.length<=2000:=by rw [hu3];exact Nq h.bs h.ok.st
   have p3:u3.pc<=S.aH.length:=by rw [hu3];exact hlt
   have n3:u3.number=u.number:=by rw [hu3]
   have a3:u3.ahead=u.ahead:=by rw [hu3]
   rw [<-e3,<-n3,<-a3];unfold Ust.Dy at e;by_cases hs:2000 < u3.steps
   .rw [Nj hs] at e
    cases e
   .rw [Nh hs] at e;obtain ⟨rg,ea,_⟩:=eZ u3 c;rw [ea] at e;dsimp only at e;split at e
    .have K:=(BO (n:=S.aH.length) (u:={ u3 with rg:=rg }) ⟨h2.sp,h2.hd,h2.ct,h2.ot,h2.fb,h2.bt,h2.bl,h2.lf⟩ b3 (hP.ok c hm).tx (hP.gl c hm) p3 e).1;exact ⟨K.en,K.nm,K.ah⟩
    .split at e
     .injection e with e;rw [<-e];exact ⟨rfl,rfl,rfl⟩
     .injection e with e;rw [<-e];exact ⟨rfl,rfl,rfl⟩
theorem iZ (e:u.aD=.ok (some u1)):u1.ended=u.ended/\u1.left.length+u1.number<=u.left.length+u.number:=by
 have nR:u.there=true->((cutL u.left).2.getD []).length+(u.number+1)<=u.left.length+u.number:=fun h=>by
  have:=ni h;omega
 unfold Ust.aD at e
 cases hw:u.aI with
 | no=>rw [hw] at e;injection e with e;injection e with e;rw [<-e];exact ⟨rfl,Np _⟩
 | bw=>
  rw [hw] at e;dsimp only at e;split at e
  .cases e
  .split at e
   .rename_i ht;injection e with e;injection e with e;rw [<-e];exact ⟨rfl,nR ht⟩
   .injection e with e;cases e
 | gw=>
  rw [hw] at e;dsimp only at e;split at e
  .cases e
  .split at e
   .rename_i ht;injection e with e;injection e with e;rw [<-e];exact ⟨rfl,nR ht⟩
   .injection e with e;cases e
 | gm=>
  rw [hw] at e;dsimp only at e;split at e
  .cases e
  .split at e
   .rename_i ht;split at e
    .cases e
    .rename_i u3 hj;injection e with e;injection e with e;subst e;obtain ⟨t,_,rfl⟩:=jE hj;exact ⟨rfl,nR ht⟩
   .injection e with e;cases e
theorem tO {l R:List UInt8}:(cutL l).2=some R->cutL (l++d)=((cutL l).1,some (R++d)):=by
 induction l generalizing R with
 | nil=>intro h;cases h
 | cons c l ih=>
  intro h;unfold cutL at h;show (if c=10 then ([],some (l++d)) else (c::(cutL (l++d)).1,(cutL (l++d)).2))=((if c=10 then ([],some l) else (c::(cutL l).1,(cutL l).2)).1,some (R++d));by_cases hc:c=10
  .rw [Nj hc] at h ⊢;rw [Nj hc];injection h with h;rw [h]
  .rw [Nh hc] at h ⊢;rw [Nh hc,ih h]
theorem pd:∀ (l:List UInt8),(cutL l).1.length<=(cutL (l++d)).1.length
 | []=>Ns _
 | c::l=>by
  show (if c=10 then (([],some l):List UInt8×Option (List UInt8)) else (c::(cutL l).1,(cutL l).2)).1.length<=(if c=10 then (([],some (l++d)):List UInt8×Option (List UInt8)) else (c::(cutL (l++d)).1,(cutL (l++d)).2)).1.length;by_cases hc:c=10
  .rw [Nj hc,Nj hc];exact Np _
  .rw [Nh hc,Nh hc];exact Nat.succ_le_succ (pd l)
theorem JB (he:u.ended=false) (h:u.there=true):(u.fr o d).there=true/\cutL (u.left++d)=((cutL u.left).1,some ((cutL u.left).2.getD []++d)):=by
 unfold Ust.there at h;rw [he] at h;have hs:∃ R,(cutL u.left).2=some R:=by
  cases hc:(cutL u.left).2 with
  | some R=>exact ⟨R,rfl⟩
  | none=>
   rw [hc] at h
   cases ha:u.ahead with
   | true=>rw [ha] at h;simp at h
   | false=>rw [ha] at h;simp at h
 obtain ⟨R,hR⟩:=hs;have hcut:=tO (d:=d) hR;refine ⟨?_,by rw [hcut,hR];rfl⟩;unfold Ust.there;show (if u.ended then !(u.left++d).isEmpty else if u.ahead then !((cutL (u.left++d)).2.getD []).isEmpty else (cutL (u.left++d)).2.isSome)=true;rw [he,hcut];rw [hR] at h
 cases ha:u.ahead with
 | true=>
  rw [ha] at h;simp at h ⊢;exact fun q=>absurd q h
 | false=>rfl
def Ust.sup (wn:Wn) (C:List UInt8×Option (List UInt8)) (u:Ust):Except (Nat×Ust) (Option Ust):=
 if 1000 < C.1.length then .error (9,u)
 else if u.there then
  match wn with
  | .gw=>.ok (some { u with left:=C.2.getD [],number:=u.number+1,aI:=.no,space:=C.1 })
  | .gm=>if 4000 < (u.space++10::C.1).length then .error (8,{ u with left:=C.2.getD [],number:=u.number+1,aI:=.no }) else .ok (some { u with left:=C.2.getD [],number:=u.number+1,aI:=.no,space:=u.space++10::C.1 })
  | _=>.ok (some (({ u with left:=C.2.getD [],number:=u.number+1,aI:=.no,steps:=0 }:Ust).jO C.1))
 else .ok none
theorem iY (u:Ust):u.aD=if u.aI=.no then .ok (some u) else u.sup u.aI (cutL u.left):=by
 unfold Ust.aD Ust.sup
 cases hw:u.aI with
 | no=>rfl
 | bw=>rfl
 | gw=>rfl
 | gm=>
  rw [Nh (show ¬ Wn.gm=Wn.no by decide)];dsimp only;split
  .rfl
  .split
   .unfold Ust.gB;dsimp only;by_cases hj:4000 < (u.space++10::(cutL u.left).1).length
    .rw [Nj hj,Nj hj]
    .rw [Nh hj,Nh hj]
   .rfl
theorem oa (he:u.ended=false):(∀ E v,u.aD=.error (E,v)->(u.fr o d).aD=.error (E,v.fr o d))/\(∀ v,u.aD=.ok (some v)->(u.fr o d).aD=.ok (some (v.fr o d))):=by
 have hle:=pd (d:=d) u.left;have T:=JB (o:=o) (d:=d) he;rw [iY,iY,show (u.fr o d).aI=u.aI from rfl,show (u.fr o d).left=u.left++d from rfl];obtain ⟨C,hC⟩:∃ C,C=cutL (u.left++d):=⟨_,rfl⟩;obtain ⟨B,hB⟩:∃ B,B=cutL u.left:=⟨_,rfl⟩;rw [<-hC,<-hB] at hle T ⊢;obtain ⟨wn,hwn⟩:∃ wn,wn=u.aI:=⟨_,rfl⟩;rw [<-hwn];by_cases h0:wn=.no
 .rw [Nj h0,Nj h0];refine ⟨fun E v e=>(by cases e),fun v e=>?_⟩;injection e with e;injection e with e;rw [e]
 .rw [Nh h0,Nh h0];unfold Ust.sup;by_cases hl:1000 < B.1.length
  .have hl2:1000 < C.1.length:=Ni hl hle;rw [Nj hl2,Nj hl];refine ⟨fun E v e=>?_,fun v e=>(by cases e)⟩;injection e with e;injection e with e1 e2;rw [<-e1,<-e2]
  .rw [Nh hl];by_cases ht:u.there=true
   .obtain ⟨t1,t2⟩:=T ht;have hl2:¬ 1000 < C.1.length:=by rw [t2];exact hl
    rw [Nh hl2,Nj t1,Nj ht,t2]
    cases wn with
    | no=>exact absurd rfl h0
    | bw=>
     refine ⟨fun E v e=>(by cases e),fun v e=>?_⟩;injection e with e;injection e with e;rw [<-e]
     rfl
    | gw=>
     refine ⟨fun E v e=>(by cases e),fun v e=>?_⟩;injection e with e;injection e with e;rw [<-e]
     rfl
    | gm=>
     dsimp only;by_cases hj:4000 < (u.space++10::B.1).length
     .rw [Nj hj,Nj (show 4000 < ((u.fr o d).space++10::B.1).length from hj)];refine ⟨fun E v e=>?_,fun v e=>(by cases e)⟩;injection e with e;injection e with e1 e2;rw [<-e1,<-e2]
      rfl
     .rw [Nh hj,Nh (show ¬ 4000 < ((u.fr o d).space++10::B.1).length from hj)];refine ⟨fun E v e=>(by cases e),fun v e=>?_⟩;injection e with e;injection e with e;rw [<-e]
      rfl
   .rw [Nh ht];refine ⟨fun E v e=>(by cases e),fun v e=>?_⟩;injection e with e
    cases e
end
section
variable {o d:List UInt8} {u v u1 u2:Ust} {S:eF}
theorem yG (hP:fY S):∀ (k k':Nat) (u:Ust),iR S u->u.xk S.aH.length < k->u.xk S.aH.length < k'->Ust.runF S k u=Ust.runF S k' u
 | 0,_,_,_,h1,_=>absurd h1 (by omega)
 | _+1,0,_,_,_,h2=>absurd h2 (by omega)
 | k+1,k'+1,u,h,h1,h2=>by
  unfold Ust.runF;split
  .rfl
  .cases hs:u.aD with
   | error e=>rfl
   | ok x=>
    cases x with
    | none=>rfl
    | some u1=>
     dsimp only
     cases hl:u1.look S with
     | error e=>rfl
     | ok u2=>
      dsimp only;obtain ⟨i2,m2⟩:=fP hP h hs hl;exact yG hP k k' u2 i2 (by omega) (by omega)
theorem Fv (hP:fY S) {k:Nat} (h:iR S u) (hk:u.xk S.aH.length < k):u.run S=lR (Ust.runF S k u):=by
 rw [lQ,yG hP (u.fuel S) k u h (Hc _ u S rfl) hk]
theorem Be (hP:fY S):∀ (k:Nat) (u:Ust),iR S u->iR S (u.fr [] d)->u.ended=false->u.xk S.aH.length < k->∀ k',(u.fr [] d).xk S.aH.length < k' ->
  (∀ E v,Ust.runF S k u=.error (E,v)->Ust.runF S k' (u.fr [] d)=.error (E,v.fr [] d)) /\
  (∀ v,Ust.runF S k u=.ok v->(v.over=true->Ust.runF S k' (u.fr [] d)=.ok (v.fr [] d))/\(v.over=false->v.ended=false/\iR S v/\iR S (v.fr [] d)/\v.left.length+v.number<=u.left.length+u.number/\(v.fr [] d).xk S.aH.length < k'/\Ust.runF S k' (u.fr [] d)=Ust.runF S k' (v.fr [] d)))
 | 0,_,_,_,_,h1,_,_=>absurd h1 (by omega)
 | _+1,_,_,_,_,_,0,h2=>absurd h2 (by omega)
 | k+1,u,h,hf,he,h1,k'+1,h2=>by
  by_cases ho:u.over=true
  .have e1:Ust.runF S (k+1) u=.ok u:=by
    unfold Ust.runF;rw [Nj ho]
   have e2:Ust.runF S (k'+1) (u.fr [] d)=.ok (u.fr [] d):=by
    unfold Ust.runF;rw [Nj (show (u.fr [] d).over=true from ho)]
   rw [e1,e2];refine ⟨fun E v e=>(by cases e),fun v e=>?_⟩;injection e with e;subst e;exact ⟨fun _=>rfl,fun q=>by rw [ho] at q;cases q⟩
  .have e1:Ust.runF S (k+1) u=(match u.aD with
     | .error e=>.error e
     | .ok none=>.ok u
     | .ok (some u1)=>match u1.look S with
      | .error e=>.error e
      | .ok u2=>Ust.runF S k u2):=by
    rw [Ust.runF,Nh ho]
    rfl
   have e2:Ust.runF S (k'+1) (u.fr [] d)=(match (u.fr [] d).aD with
     | .error e=>.error e
     | .ok none=>.ok (u.fr [] d)
     | .ok (some u1)=>match u1.look S with
      | .error e=>.error e
      | .ok u2=>Ust.runF S k' u2):=by
    rw [Ust.runF,Nh (show ¬ (u.fr [] d).over=true from ho)]
    rfl
   obtain ⟨F1,F2⟩:=oa (o:=[]) (d:=d) he
   cases hs:u.aD with
   | error q=>
    obtain ⟨E,v⟩:=q;rw [F1 E v hs] at e2;rw [hs] at e1;rw [e1,e2];refine ⟨fun E' v' e=>?_,fun v e=>(by cases e)⟩;injection e with e;injection e with q1 q2;rw [<-q1,<-q2]
   | ok x=>
    cases x with
    | none=>
     rw [hs] at e1;rw [e1];refine ⟨fun E v e=>(by cases e),fun v e=>?_⟩;injection e with e;subst e;exact ⟨fun q=>absurd q ho,fun _=>⟨he,h,hf,Np _,h2,rfl⟩⟩
    | some u1=>
     have hs2:=F2 u1 hs;rw [hs2] at e2;rw [hs] at e1;dsimp only at e1 e2;have he1:u1.ended=false:=(iZ hs).1.trans he;have hns:dH d u1:=by
      unfold dH Ust.none_;show (u1.ended && _)=(u1.ended && _);rw [he1]
      rfl
     have hlf:=Hh (o:=[]) (S:=S) hns;obtain ⟨i1,w1,c1⟩:=eV h hs;have n1:=(iZ hs).2
     cases hl:u1.look S with
     | error q=>
      obtain ⟨E,v⟩:=q;rw [hl] at e1 hlf;rw [hlf] at e2;rw [e1,e2];refine ⟨fun E' v' e=>?_,fun v e=>(by cases e)⟩;replace e:(Except.error (E,v):RU)=.error (E',v'):=e;injection e with e;injection e with q1 q2;rw [<-q1,<-q2]
      rfl
     | ok u2=>
      rw [hl] at e1 hlf;rw [hlf] at e2;replace e1:Ust.runF S (k+1) u=Ust.runF S k u2:=e1;replace e2:Ust.runF S (k'+1) (u.fr [] d)=Ust.runF S k' (u2.fr [] d):=e2;obtain ⟨i2,m2⟩:=fP hP h hs hl;obtain ⟨j2,k2⟩:=fP hP hf hs2 hlf;have he2:=Hi hP i1 hl;have hl2:=(BH hP i1 w1 hl).2.1;obtain ⟨R1,R2⟩:=Be hP k u2 i2 j2 (he2.1.trans he1) (by omega) k' (by omega);rw [e1,e2];refine ⟨R1,fun v e=>⟨(R2 v e).1,fun q=>?_⟩⟩;obtain ⟨r1,r2,r3,r4,r5,r6⟩:=(R2 v e).2 q;refine ⟨r1,r2,r3,?_,by omega,?_⟩
      .rw [hl2,he2.2.1] at r4;omega
      .rw [r6];exact yG hP k' (k'+1) (v.fr [] d) r3 r5 (by omega)
theorem ML:u.fr o []={ u with out:=o++u.out }:=by
 unfold Ust.fr;rw [NX]
theorem uF (e:u.aD=.ok none):(u.fr o []).aD=.ok none:=by
 rw [ML];rw [iY] at e ⊢;show (if u.aI=.no then .ok (some { u with out:=o++u.out }) else Ust.sup u.aI (cutL u.left) { u with out:=o++u.out })=_;by_cases h0:u.aI=.no
 .rw [Nj h0] at e
  cases e
 .rw [Nh h0] at e ⊢;unfold Ust.sup at e ⊢;by_cases hl:1000 < (cutL u.left).1.length
  .rw [Nj hl] at e
   cases e
  .rw [Nh hl] at e ⊢;by_cases ht:u.there=true
   .rw [Nj ht] at e;split at e
    .cases e
    .split at e <;> cases e
    .cases e
   .rw [Nh (show ¬ ({ u with out:=o++u.out }:Ust).there=true from ht)]
theorem Bb (hP:fY S):∀ (k:Nat) (u:Ust),iR S u->u.ended=false->Ust.runF S k (u.fr o [])=frR o [] (Ust.runF S k u)
 | 0,_,_,_=>rfl
 | k+1,u,h,he=>by
  by_cases ho:u.over=true
  .rw [Ust.runF,Ust.runF,Nj (show (u.fr o []).over=true from ho),Nj ho]
   rfl
  .rw [Ust.runF,Ust.runF,Nh (show ¬ (u.fr o []).over=true from ho),Nh ho];obtain ⟨F1,F2⟩:=oa (o:=o) (d:=[]) he
   cases hs:u.aD with
   | error q=>
    obtain ⟨E,v⟩:=q;rw [F1 E v hs]
    rfl
   | ok x=>
    cases x with
    | none=>
     rw [uF hs]
     rfl
    | some u1=>
     rw [F2 u1 hs];dsimp only;have hns:dH [] u1:=by
      unfold dH Ust.none_;show (u1.ended && (u1.left++[]).isEmpty)=_;rw [NX]
     rw [Hh hns];obtain ⟨i1,w1,_⟩:=eV h hs
     cases hl:u1.look S with
     | error q=>rfl
     | ok u2=>exact Bb hP k u2 (fP hP h hs hl).1 ((Hi hP i1 hl).1.trans ((iZ hs).1.trans he))
theorem run_pre (hP:fY S) (h:iR S u) (he:u.ended=false):(u.fr o []).run S=(u.run S).fr o []:=by
 have e:(u.fr o []).fuel S=u.fuel S:=by
  rw [ML]
  rfl
 rw [lQ,lQ,e,Bb hP _ u h he]
 cases Ust.runF S (u.fuel S) u <;> rfl
def Fed (S:eF) (u:Ust):Prop:=Ej S u/\(u.over=false->u.ended=false)
theorem Lg (hP:fY S) {d1 d2:List UInt8} (h:Fed S u) (hb:u.over=false->u.left.length+d1.length+d2.length+u.number<=281474976710656) :
  u.feed S (d1++d2)=(⟨(u.feed S d1).1.out++((u.feed S d1).2.feed S d2).1.out,((u.feed S d1).2.feed S d2).1.over,((u.feed S d1).2.feed S d2).1.err,((u.feed S d1).2.feed S d2).1.status⟩,((u.feed S d1).2.feed S d2).2)/\Fed S (u.feed S d1).2/\((u.feed S d1).2.over=false->(u.feed S d1).2.left.length+(u.feed S d1).2.number<=u.left.length+u.number+d1.length):=by
 obtain ⟨hi,he⟩:=h;have overs:∀ x:Ust,x.over=true->∀ D,x.feed S D=(⟨x.out,true,x.err,x.status⟩,{ x with out:=[],left:=[] }):=fun x hx D=>by
  unfold Ust.feed Ust.fX;rw [Nj hx,hx,Nj rfl]
 rcases hi with ⟨hov,hl⟩ | ⟨hov,hi⟩
 .rw [overs u hov,overs u hov,overs _ (show ({ u with out:=[],left:=[] }:Ust).over=true from hov)];refine ⟨?_,⟨.inl ⟨hov,rfl⟩,fun q=>?_⟩,fun q=>?_⟩
  .dsimp only;rw [NX]
  .rw [show ({ u with out:=[],left:=[] }:Ust).over=u.over from rfl,hov] at q
   cases q
  .rw [show ({ u with out:=[],left:=[] }:Ust).over=u.over from rfl,hov] at q
   cases q
 .have hb:=hb hov;have he:=he hov;have k:=hi.ok.ok;obtain ⟨w,hw⟩:∃ w:Ust,w={ u with left:=u.left++d1 }:=⟨_,rfl⟩;have iw:iR S w:=by
   rw [hw];exact ⟨⟨⟨k.sp,k.hd,k.ct,k.ot,k.fb,k.bt,k.bl,by show (u.left++d1).length+u.number<=_;rw [Nn];omega⟩,hi.ok.fb,hi.ok.rg,hi.ok.pc,hi.ok.st⟩,hi.bs,hi.bw⟩
  have iw2:iR S (w.fr [] d2):=by
   rw [hw];exact ⟨⟨⟨k.sp,k.hd,k.ct,k.ot,k.fb,k.bt,k.bl,by show (u.left++d1++d2).length+u.number<=_;rw [Nn,Nn];omega⟩,hi.ok.fb,hi.ok.rg,hi.ok.pc,hi.ok.st⟩,hi.bs,hi.bw⟩
  have wo:w.over=false:=by rw [hw];exact hov
  have we:w.ended=false:=by rw [hw];exact he
  have wl:w.left.length+w.number=u.left.length+u.number+d1.length:=by
   rw [hw];show (u.left++d1).length+u.number=_;rw [Nn];omega
  have E1:u.feed S d1=(w.run S).fX:=by
   unfold Ust.feed;rw [Nh (by rw [hov];simp),hw]
  have E2:u.feed S (d1++d2)=((w.fr [] d2).run S).fX:=by
   unfold Ust.feed;rw [Nh (by rw [hov];simp),hw];show (({ u with left:=u.left++(d1++d2) }:Ust).run S).fX=(({ u with left:=u.left++d1++d2 }:Ust).run S).fX;rw [Nz]
  obtain ⟨K,hK⟩:∃ K,w.xk S.aH.length < K/\(w.fr [] d2).xk S.aH.length < K:=⟨w.xk S.aH.length+(w.fr [] d2).xk S.aH.length+1,by omega,by omega⟩;obtain ⟨R1,R2⟩:=Be hP K w iw iw2 we hK.1 K hK.2;have rw1:=Fv hP iw hK.1;have rw2:=Fv hP iw2 hK.2;rw [rw1] at E1;rw [rw2] at E2;rw [E1,E2]
  cases hr:Ust.runF S K w with
  | error q=>
   obtain ⟨E,v⟩:=q;rw [R1 E v hr];have a1:(lR (.error (E,v))).fX=(⟨v.out,true,E,v.status⟩,{ v with over:=true,err:=E,out:=[],left:=[] }):=rfl;have a2:(lR (.error (E,v.fr [] d2))).fX=(⟨v.out,true,E,v.status⟩,{ v with over:=true,err:=E,out:=[],left:=[] }):=rfl;rw [a1,a2,overs _ (show ({ v with over:=true,err:=E,out:=[],left:=[] }:Ust).over=true from rfl)];refine ⟨?_,⟨.inl ⟨rfl,rfl⟩,fun q=>(by cases q)⟩,fun q=>(by cases q)⟩;dsimp only;rw [NX]
  | ok v=>
   obtain ⟨r1,r2⟩:=R2 v hr;by_cases hv:v.over=true
   .rw [r1 hv];have a1:(lR (.ok v)).fX=(⟨v.out,true,v.err,v.status⟩,{ v with out:=[],left:=[] }):=by
     show (((⟨v.out,v.over,v.err,v.status⟩:Ust.Rep),({ v with out:=[],left:=if v.over then [] else v.left }:Ust)):Ust.Rep×Ust)=_;rw [hv]
     rfl
    have a2:(lR (.ok (v.fr [] d2))).fX=(⟨v.out,true,v.err,v.status⟩,{ v with out:=[],left:=[] }):=by
     show (((⟨[]++v.out,v.over,v.err,v.status⟩:Ust.Rep),({ v with out:=[],left:=if v.over then [] else v.left++d2 }:Ust)):Ust.Rep×Ust)=_;rw [hv]
     rfl
    rw [a1,a2,overs _ (show ({ v with out:=[],left:=[] }:Ust).over=true from hv)];refine ⟨?_,⟨.inl ⟨hv,rfl⟩,fun q=>?_⟩,fun q=>?_⟩
    .dsimp only;rw [NX]
    .rw [show ({ v with out:=[],left:=[] }:Ust).over=v.over from rfl,hv] at q
     cases q
    .rw [show ({ v with out:=[],left:=[] }:Ust).over=v.over from rfl,hv] at q
     cases q
   .have hv:v.over=false:=by simpa using hv
    obtain ⟨r3,r4,r5,r6,r7,r8⟩:=r2 hv;rw [r8];have a1:(lR (.ok v)).fX=(⟨v.out,false,v.err,v.status⟩,{ v with out:=[] }):=by
     show (((⟨v.out,v.over,v.err,v.status⟩:Ust.Rep),({ v with out:=[],left:=if v.over then [] else v.left }:Ust)):Ust.Rep×Ust)=_;rw [hv]
     rfl
    rw [a1];dsimp only;have kv:=r4.ok.ok;have k5:=r5.ok.ok.lf;obtain ⟨W,hW⟩:∃ W:Ust,W={ v with out:=[],left:=v.left++d2 }:=⟨_,rfl⟩;have iW:iR S W:=by
     rw [hW];exact ⟨⟨⟨kv.sp,kv.hd,kv.ct,Ns _,kv.fb,kv.bt,kv.bl,k5⟩,r4.ok.fb,r4.ok.rg,r4.ok.pc,r4.ok.st⟩,r4.bs,r4.bw⟩
    have E3:({ v with out:=[] }:Ust).feed S d2=(W.run S).fX:=by
     unfold Ust.feed;rw [Nh (by rw [hv];simp),hW]
    have E4:v.fr [] d2=W.fr v.out []:=by
     rw [hW];show ({ v with left:=v.left++d2,out:=[]++v.out }:Ust)={ v with left:=v.left++d2++[],out:=v.out++[] };rw [NX,NX]
     rfl
    have E5:lR (Ust.runF S K (v.fr [] d2))=(W.run S).fr v.out []:=by
     rw [<-Fv hP r5 r7,E4];exact run_pre hP iW (by rw [hW];exact r3)
    rw [E3,E5];refine ⟨?_,⟨.inr ⟨hv,⟨⟨⟨kv.sp,kv.hd,kv.ct,Ns _,kv.fb,kv.bt,kv.bl,kv.lf⟩,r4.ok.fb,r4.ok.rg,r4.ok.pc,r4.ok.st⟩,r4.bs,r4.bw⟩⟩,fun _=>r3⟩,fun _=>?_⟩
    .show ((⟨v.out++(W.run S).out,(W.run S).over,(W.run S).err,(W.run S).status⟩,{ W.run S with out:=[],left:=if (W.run S).over then [] else (W.run S).left++[] }):Ust.Rep×Ust)=_;rw [NX]
     rfl
    .show v.left.length+v.number<=_;omega
end
section
variable {u v:Ust} {S:eF} {d d1 d2:List UInt8}
theorem end_out:(u.end_ S).2.out=[]:=rfl
theorem Io:(u.end_ S).1.over=(u.end_ S).2.over/\(u.end_ S).1.err=(u.end_ S).2.err/\(u.end_ S).1.status=(u.end_ S).2.status:=⟨rfl,rfl,rfl⟩
theorem zM:(u.end_ S).2.over=true:=by
 unfold Ust.end_ Ust.fX;dsimp only;by_cases h:u.over=true
 .rw [Nj h];exact h
 .rw [Nh h]
theorem oH (h:u.over=true) (ho:u.out=[]):(u.feed S d).1=⟨[],true,u.err,u.status⟩/\(u.feed S d).2.over=true:=by
 unfold Ust.feed Ust.fX;rw [Nj h,ho,h];exact ⟨rfl,rfl⟩
structure Btc (S:eF) (u:Ust):Prop where
 inv:Ej S u
 out:u.out=[]
 fbl:u.fb.length=S.names.length
theorem bt_ust0 (hP:fY S) (ah:Bool):Btc S (pH ah S.names.length S.ranges):=⟨AJ hP ah,rfl,by show (List.replicate _ _).length=_;simp⟩
theorem zJ (hP:fY S) (h:Btc S u) (hd:u.over=false->u.left.length+d.length+u.number<=281474976710656):Btc S (u.feed S d).2/\(u.feed S d).1.out.length<=200000:=by
 refine ⟨⟨Cg hP h.inv hd,rfl,?_⟩,?_⟩
 .show (if u.over then u else ({ u with left:=u.left++d }:Ust).run S).fb.length=_;rcases h.inv with ⟨ho,_⟩ | ⟨ho,hi⟩
  .rw [Nj ho];exact h.fbl
  .rw [Nh (by rw [ho];simp)];have k:=hi.ok.ok;exact (rI hP (u:={ u with left:=u.left++d }) ⟨⟨⟨k.sp,k.hd,k.ct,k.ot,k.fb,k.bt,k.bl,by show (u.left++d).length+u.number<=_;rw [Nn];exact hd ho⟩,hi.ok.fb,hi.ok.rg,hi.ok.pc,hi.ok.st⟩,hi.bs,hi.bw⟩).2.1
 .show (if u.over then u else ({ u with left:=u.left++d }:Ust).run S).out.length<=_;rcases h.inv with ⟨ho,_⟩ | ⟨ho,hi⟩
  .rw [Nj ho,h.out];exact Ns _
  .rw [Nh (by rw [ho];simp)];have k:=hi.ok.ok;exact (rI hP (u:={ u with left:=u.left++d }) ⟨⟨⟨k.sp,k.hd,k.ct,k.ot,k.fb,k.bt,k.bl,by show (u.left++d).length+u.number<=_;rw [Nn];exact hd ho⟩,hi.ok.fb,hi.ok.rg,hi.ok.pc,hi.ok.st⟩,hi.bs,hi.bw⟩).1
theorem end_bt (hP:fY S) (h:Btc S u):Btc S (u.end_ S).2/\(u.end_ S).1.out.length<=200000:=by
 refine ⟨⟨Ip h.inv,rfl,?_⟩,?_⟩
 .show (if u.over then u else { ({ u with ended:=true }:Ust).run S with over:=true }).fb.length=_;rcases h.inv with ⟨ho,_⟩ | ⟨ho,hi⟩
  .rw [Nj ho];exact h.fbl
  .rw [Nh (by rw [ho];simp)];have k:=hi.ok.ok;exact (rI hP (u:={ u with ended:=true }) ⟨⟨⟨k.sp,k.hd,k.ct,k.ot,k.fb,k.bt,k.bl,k.lf⟩,hi.ok.fb,hi.ok.rg,hi.ok.pc,hi.ok.st⟩,hi.bs,hi.bw⟩).2.1
 .show (if u.over then u else { ({ u with ended:=true }:Ust).run S with over:=true }).out.length<=_;rcases h.inv with ⟨ho,_⟩ | ⟨ho,hi⟩
  .rw [Nj ho,h.out];exact Ns _
  .rw [Nh (by rw [ho];simp)];have k:=hi.ok.ok;exact (rI hP (u:={ u with ended:=true }) ⟨⟨⟨k.sp,k.hd,k.ct,k.ot,k.fb,k.bt,k.bl,k.lf⟩,hi.ok.fb,hi.ok.rg,hi.ok.pc,hi.ok.st⟩,hi.bs,hi.bw⟩).1
def Ust.Rep.pre (O:List UInt8) (r:Ust.Rep):Ust.Rep:=⟨O++r.out,r.over,r.err,r.status⟩
structure Pcs (S:eF) (T:Nat) (F:Ust.Rep×Ust) (u:Ust) (O rest:List UInt8):Prop where
 bt:Btc S u
 en:u.over=false->u.ended=false
 lf:u.over=false->u.left.length+u.number+rest.length<=T
 at_:F=((u.feed S rest).1.pre O,(u.feed S rest).2)
theorem Pcs.first (hP:fY S) (ah:Bool) (inp:List UInt8):Pcs S inp.length ((pH ah S.names.length S.ranges).feed S inp) (pH ah S.names.length S.ranges) [] inp:=
 ⟨bt_ust0 hP ah,fun _=>rfl,fun _=>by show 0+0+inp.length<=_;omega,rfl⟩
theorem Pcs.next {T:Nat} {F:Ust.Rep×Ust} {O:List UInt8} (hP:fY S) (hT:T<=281474976710656) (h:Pcs S T F u O (d1++d2)):Pcs S T F (u.feed S d1).2 (O++(u.feed S d1).1.out) d2/\O.length+(u.feed S d1).1.out.length<=F.1.out.length/\(u.over=true->(u.feed S d1).1.out=[]/\(u.feed S d1).1.over=true):=by
 have hb:u.over=false->u.left.length+d1.length+d2.length+u.number<=281474976710656:=fun q=>by
  have:=h.lf q;rw [Nn] at this;omega
 obtain ⟨e,f1,f2⟩:=Lg (d1:=d1) (d2:=d2) hP ⟨h.bt.inv,h.en⟩ hb;have ht:=h.at_;rw [e] at ht;refine ⟨⟨(zJ hP h.bt (fun q=>by have:=hb q;omega)).1,f1.2,fun q=>?_,?_⟩,?_,fun q=>?_⟩
 .have q2:=f2 q;have ho:u.over=false:=by
   cases hv:u.over with
   | false=>rfl
   | true=>
    have:=(oH (S:=S) (d:=d1) hv h.bt.out).2;rw [q] at this
    cases this
  have:=h.lf ho;rw [Nn] at this;omega
 .rw [ht];unfold Ust.Rep.pre;dsimp only;rw [Nz]
 .rw [ht];unfold Ust.Rep.pre;dsimp only;rw [Nn,Nn];omega
 .have:=(oH (S:=S) (d:=d1) q h.bt.out).1;rw [this];exact ⟨rfl,rfl⟩
end
end Go.Proofs.YtiahkfoojjpaaaaGreatDoor
