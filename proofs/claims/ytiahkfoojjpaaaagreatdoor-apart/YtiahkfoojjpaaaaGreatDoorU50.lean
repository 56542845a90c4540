import Derived.Test.YtiahkfoojjpaaaaGreatDoorU48
set_option maxRecDepth 100000
set_option maxHeartbeats 16000000
set_option linter.all false
namespace Go.Proofs.YtiahkfoojjpaaaaGreatDoor
open Go.RowKit
section
variable {w0 w w' w2:World} {mb sb db lo hi eb:Nat} {s s':Mst} {u:Ust} {σ:Sst} {S:eF}
theorem prg_of {src:ByteArray} {b:Nat} (h:Jz w w' b 0 S) (hS:scrE src=.ok S) (hp:Pow w):∃ lo hi σ,Prg w' lo hi b σ S/\Kp [] w w':=by
 obtain ⟨σ,h1,h2,h3⟩:=h;exact ⟨_,_,σ,⟨h2,h1,Fm hS,hp.aj h3⟩,h3⟩
theorem Ed.far (h:Ed w0 w eb mb sb db S s u) {p:Nat} (hp:w.heap.size<=p):¬ Ed.blk eb mb db s p:=fun q=>by
 have:=h.lt q;omega
theorem Lft.bl {x:Nat} {cv:List Value} (l:Lft w0 w eb mb db s w' s') (B:Bl w x cv) (hx:¬ Ed.blk eb mb db s x):Bl w' x cv/\¬ Ed.blk eb mb db s' x:=by
 refine ⟨B.qL (l.same x B.lt hx),fun q=>?_⟩;rcases l.from_ x q with r | r
 .exact hx r
 .have:=B.lt;omega
end
section
variable {o d:List UInt8} {u:Ust} {t:List UInt8} {q:Bool}
noncomputable def Ust.lookC (S:eF) (c:aV) (u2:Ust):RU:=
 if 2000 < u2.steps then .error (7,u2)
 else if (u2.addressed c).1 != c.neg then (u2.addressed c).2.iX S.quiet c else if c.what=123 then .ok { (u2.addressed c).2 with pc:=c.goal } else .ok (u2.addressed c).2
theorem look_is (S:eF) (u:Ust):u.look S=match S.aG[u.pc]? with
 | none=>u.dG S.quiet
 | some c=>if c.what=125\/c.what=58 then .ok { u with pc:=u.pc+1 } else ({ u with pc:=u.pc+1,steps:=u.steps+1 }:Ust).lookC S c:=rfl
end
def ErrB (n:Nat) (v:Ust):Prop:=v.out.length<=200000/\v.fb.length=n/\∀ t∈v.fb,t.length<=200000
def Ct (n:Nat):RU->Prop
 | .error (_,v)=>ErrB n v
 | .ok _=>True
section
variable {o d:List UInt8} {u:Ust} {t:List UInt8} {q:Bool} {n:Nat}
theorem iV (h:UOk u) (hn:u.fb.length=n):ErrB n u:=⟨Nx h.ot h.ct,hn,fun t ht=>Nx (h.fb t ht) h.ct⟩
theorem fE (h:UOk u) (hn:u.fb.length=n):Ct n (u.tell t):=by
 unfold Ust.tell;have k:=iV h hn;split
 .exact ⟨k.1,k.2.1,k.2.2⟩
 .trivial
theorem xD {i:Nat} (h:UOk u) (hn:u.fb.length=n):Ct n (u.write i t):=by
 unfold Ust.write;have k:=iV h hn;split
 .exact ⟨k.1,k.2.1,k.2.2⟩
 .trivial
theorem xE:∀ (l:List (List UInt8)) (u:Ust),UOk u->u.fb.length=n->Ct n (Ust.tellL l u)
 | [],u,_,_=>trivial
 | t::l,u,h,hn=>by
  unfold Ust.tellL;have A:=fE (t:=t) h hn
  cases h1:u.tell t with
  | error e=>rw [h1] at A;exact A
  | ok u1=>exact xE l u1 (h.tell h1).1 ((eD h h1).1.fb.trans hn)
theorem fM (h:UOk u) (hn:u.fb.length=n):Ct n u.brought:=by
 rw [lz];have A:=xE u.br u h hn
 cases h1:Ust.tellL u.br u with
 | error e=>rw [h1] at A;exact A
 | ok u1=>trivial
theorem oJ (h:UOk u) (hn:u.fb.length=n):Ct n (u.dN q):=by
 unfold Ust.dN
 cases q
 .show Ct n (match u.tell u.space with | .error e=>.error e | .ok u1=>u1.brought);have A:=fE (t:=u.space) h hn
  cases h1:u.tell u.space with
  | error e=>rw [h1] at A;exact A
  | ok u1=>exact fM (h.tell h1).1 ((eD h h1).1.fb.trans hn)
 .exact fM h hn
theorem lK (h:UOk u) (hn:u.fb.length=n):Ct n (u.dG q):=by
 unfold Ust.dG;have A:=oJ (q:=q) h hn
 cases h1:u.dN q with
 | error e=>rw [h1] at A;exact A
 | ok u1=>trivial
theorem fF (h:UOk u) (hn:u.fb.length=n):Ct n u.aH:=by
 unfold Ust.aH;have A:=fM h hn
 cases h1:u.brought with
 | error e=>rw [h1] at A;exact A
 | ok u1=>trivial
theorem lu {st:Nat} (h:UOk u) (hn:u.fb.length=n):Ct n (u.fO q st):=by
 unfold Ust.fO;have A:=lK (q:=q) h hn
 cases h1:u.dG q with
 | error e=>rw [h1] at A;exact A
 | ok u1=>trivial
theorem qC {c:aV} (h:UOk u) (hn:u.fb.length=n):Ct n (ic c u):=by
 unfold ic;split
 .trivial
 .exact xD h hn
theorem zK {c:aV} (h:UOk u) (hn:u.fb.length=n):Ct n (u.replace c):=by
 rw [jR]
 cases yG c u.space with
 | none=>trivial
 | some t=>
  dsimp only;by_cases hl:4000 < t.length
  .rw [Ny hl];exact iV h hn
  .rw [Nr hl];have h2:UOk ({ u with space:=t,gL:=true }:Ust):=⟨by show t.length<=4000;omega,h.hd,h.ct,h.ot,h.fb,h.bt,h.bl,h.lf⟩
   cases c.print with
   | true=>
    rw [Ny rfl];have A:=fE (t:=t) (n:=n) h2 hn
    cases h1:({ u with space:=t,gL:=true }:Ust).tell t with
    | error e=>rw [h1] at A;exact A
    | ok u1=>exact qC (h2.tell h1).1 ((eD h2 h1).1.fb.trans hn)
   | false=>
    rw [Nr (by simp)];exact qC h2 hn
theorem xH {a b:List UInt8} {f:List UInt8->Ust} (h:UOk u) (hn:u.fb.length=n):Ct n (Ust.gS a b f u):=by
 unfold Ust.gS;split
 .exact iV h hn
 .trivial
theorem Lw {c:aV} (h:UOk u) (hn:u.fb.length=n):Ct n (u.iX q c):=by
 unfold Ust.iX;by_cases x123:c.what=123
 .rw [Ny x123];exact trivial
 rw [Nr x123];by_cases x98:c.what=98
 .rw [Ny x98];exact trivial
 rw [Nr x98];by_cases x116:c.what=116
 .rw [Ny x116];exact trivial
 rw [Nr x116];by_cases x97:c.what=97
 .rw [Ny x97];exact trivial
 rw [Nr x97];by_cases x105:c.what=105
 .rw [Ny x105];exact fE h hn
 rw [Nr x105];by_cases x99:c.what=99
 .rw [Ny x99];by_cases hq:c.dV.length=2/\c.neg=false/\u.rg.getD c.range false=true
  .rw [Ny hq];exact fF h hn
  .rw [Nr hq];have A:=fE (t:=c.text.plain) h hn
   cases h1:u.tell c.text.plain with
   | error e=>rw [h1] at A;exact A
   | ok u1=>exact fF (h.tell h1).1 ((eD h h1).1.fb.trans hn)
 rw [Nr x99];by_cases x115:c.what=115
 .rw [Ny x115];exact zK h hn
 rw [Nr x115];by_cases x121:c.what=121
 .rw [Ny x121];exact trivial
 rw [Nr x121];by_cases x100:c.what=100
 .rw [Ny x100];exact fF h hn
 rw [Nr x100];by_cases x68:c.what=68
 .rw [Ny x68]
  cases (cutL u.space).2 with
  | none=>exact fF h hn
  | some rest=>
   dsimp only;have A:=fM h hn
   cases h1:u.brought with
   | error e=>rw [h1] at A;exact A
   | ok u1=>trivial
 rw [Nr x68];by_cases x103:c.what=103
 .rw [Ny x103];exact trivial
 rw [Nr x103];by_cases x71:c.what=71
 .rw [Ny x71];exact xH h hn
 rw [Nr x71];by_cases x104:c.what=104
 .rw [Ny x104];exact trivial
 rw [Nr x104];by_cases x72:c.what=72
 .rw [Ny x72];exact xH h hn
 rw [Nr x72];by_cases x120:c.what=120
 .rw [Ny x120];exact trivial
 rw [Nr x120];by_cases x110:c.what=110
 .rw [Ny x110];split
  .exact lu h hn
  .have A:=oJ (q:=q) h hn
   cases h1:u.dN q with
   | error e=>rw [h1] at A;exact A
   | ok u1=>trivial
 rw [Nr x110];by_cases x78:c.what=78
 .rw [Ny x78];split
  .exact lu h hn
  .have A:=fM h hn
   cases h1:u.brought with
   | error e=>rw [h1] at A;exact A
   | ok u1=>trivial
 rw [Nr x78];by_cases x112:c.what=112
 .rw [Ny x112];exact fE h hn
 rw [Nr x112];by_cases x80:c.what=80
 .rw [Ny x80];exact fE h hn
 rw [Nr x80];by_cases x108:c.what=108
 .rw [Ny x108];exact fE h hn
 rw [Nr x108];by_cases x61:c.what=61
 .rw [Ny x61];exact fE h hn
 rw [Nr x61];by_cases x113:c.what=113
 .rw [Ny x113];exact lu h hn
 rw [Nr x113];by_cases x119:c.what=119
 .rw [Ny x119];exact xD h hn
 rw [Nr x119]
 trivial
theorem Lv {S:eF} (h:UOk u) (hn:u.fb.length=n):Ct n (u.look S):=by
 rw [look_is]
 cases S.aG[u.pc]? with
 | none=>exact lK h hn
 | some c=>
  dsimp only;by_cases hpl:c.what=125\/c.what=58
  .rw [Ny hpl]
   trivial
  .rw [Nr hpl];have h2:UOk ({ u with pc:=u.pc+1,steps:=u.steps+1 }:Ust):=⟨h.sp,h.hd,h.ct,h.ot,h.fb,h.bt,h.bl,h.lf⟩;obtain ⟨u2,hu2⟩:∃ u2:Ust,u2={ u with pc:=u.pc+1,steps:=u.steps+1 }:=⟨_,rfl⟩;have hn2:u2.fb.length=n:=by rw [hu2];exact hn
   rw [<-hu2] at h2 ⊢;unfold Ust.lookC;by_cases hs:2000 < u2.steps
   .rw [Ny hs];exact iV h2 hn2
   .rw [Nr hs];obtain ⟨rg,e,_⟩:=ig u2 c;rw [e];dsimp only;split
    .exact Lw ⟨h2.sp,h2.hd,h2.ct,h2.ot,h2.fb,h2.bt,h2.bl,h2.lf⟩ hn2
    .split <;> trivial
theorem xF {v:Ust} {E:Nat} (h:UOk u) (hn:u.fb.length=n) (e:u.dj=.error (E,v)):ErrB n v:=by
 have k:=iV h hn;unfold Ust.dj at e
 cases hw:u.aU with
 | no=>rw [hw] at e;cases e
 | bw=>
  rw [hw] at e;dsimp only at e;split at e
  .injection e with e;injection e with e1 e2;rw [<-e2];exact k
  .split at e <;> cases e
 | gw=>
  rw [hw] at e;dsimp only at e;split at e
  .injection e with e;injection e with e1 e2;rw [<-e2];exact k
  .split at e <;> cases e
 | gm=>
  rw [hw] at e;dsimp only at e;split at e
  .injection e with e;injection e with e1 e2;rw [<-e2];exact k
  .split at e
   .unfold Ust.gS at e;split at e
    .rename_i e0 hj;split at hj
     .injection hj with hj;rw [<-hj] at e;injection e with e;injection e with e1 e2;rw [<-e2];exact k
     .cases hj
    .cases e
   .cases e
theorem Cb {S:eF} (hP:lA S):∀ (k:Nat) (u:Ust) (E:Nat) (v:Ust),qQ S u->Ust.runF S k u=.error (E,v)->ErrB S.names.length v
 | 0,u,E,v,h,e=>by cases e
 | k+1,u,E,v,h,e=>by
  unfold Ust.runF at e;split at e
  .cases e
  .split at e
   .rename_i e1 h1;injection e with e;subst e;exact xF h.ok.ok h.ok.fb h1
   .cases e
   .rename_i u1 h1;obtain ⟨i1,i2,_⟩:=gM h h1;split at e
    .rename_i e2 h2;injection e with e;subst e;have A:=Lv (S:=S) i1.ok.ok i1.ok.fb;rw [h2] at A;exact A
    .rename_i u2 h2;exact Cb hP k u2 E v (nT hP h h1 h2).1 e
theorem rH {S:eF} (hP:lA S) (h:qQ S u):ErrB S.names.length (u.run S):=by
 rw [Fs]
 cases hr:Ust.runF S (u.fuel S) u with
 | error q=>
  obtain ⟨E,v⟩:=q;exact Cb hP _ u E v h hr
 | ok v=>
  have k:=rI hP _ u v h hr;exact iV k.ok.ok k.ok.fb
end
