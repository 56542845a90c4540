import Derived.Test.YtiahkfoojjpaaaaGreatDoorT32
set_option maxRecDepth 100000
set_option maxHeartbeats 16000000
set_option linter.all false
namespace Go.Proofs.YtiahkfoojjpaaaaGreatDoor
open Go.RowKit
section
variable {cd:Nat->In} {n D bg fr pl:Nat} {text:ByteArray} {s s':Mc}
theorem uz:∀ (l:List Thr) (s a b:Mc),Sweep cd n D text pl l s a->Sweep cd n D text pl l s b->a=b
 | [],s,a,b,h,k=>by rw [show a=s from h,show b=s from k]
 | t::l,s,a,b,h,k=>by
  rcases h with ⟨h1,h2,rfl⟩ | ⟨h1,s1,⟨k1,g1⟩,q1⟩ <;> rcases k with ⟨j1,j2,rfl⟩ | ⟨j1,s2,⟨k2,g2⟩,q2⟩
  .rfl
  .exact absurd ⟨h1,h2⟩ j1
  .exact absurd ⟨j1,j2⟩ h1
  .have e:=xO g1 g2;subst e;exact uz l s1 a b q1 q2
theorem A7:∀ (k pl:Nat) (here:List Thr) (s a b:Mc),Runs cd n D text bg k pl here s a->Runs cd n D text bg k pl here s b->a=b
 | 0,_,_,s,a,b,h,k=>by rw [show a=s from h,show b=s from k]
 | k+1,pl,here,s,a,b,h,q=>by
  rcases h with ⟨h1,rfl⟩ | ⟨h1,s1,w1,r1⟩ <;> rcases q with ⟨q1,rfl⟩ | ⟨q1,s2,w2,r2⟩
  .rfl
  .exact absurd h1 q1
  .exact absurd q1 h1
  .have e:=uz _ _ _ _ w1 w2;subst e;exact A7 k (pl+1) _ _ a b r1 r2
theorem ru {sn sn':Nat->Bool} (h:∀ x,sn x=true->sn' x=true) (v:Nat):∀ N,uns sn' v N<=uns sn v N
 | 0=>Nw _
 | N+1=>by
  have ih:=ru h v N;unfold uns
  cases h1:sn (v+N)
  .cases h2:sn' (v+N) <;> simp <;> omega
  .rw [h _ h1];simp;exact ih
def ym (M:Nat) (s s':Mc):Prop:=(∀ x,s.sn x=true->s'.sn x=true)/\(s'.fd=true->s.fd=true\/uns s'.sn 0 M < uns s.sn 0 M)
theorem ym.refl (M:Nat) (s:Mc):ym M s s:=⟨fun _ h=>h,fun h=>.inl h⟩
theorem ym.trans {M:Nat} {a b c:Mc} (h:ym M a b) (k:ym M b c):ym M a c:=by
 refine ⟨fun x hx=>k.1 x (h.1 x hx),fun hf=>?_⟩;have u1:=ru h.1 0 M;have u2:=ru k.1 0 M;rcases k.2 hf with e | e
 .rcases h.2 e with q | q
  .exact .inl q
  .exact .inr (by omega)
 .exact .inr (by omega)
theorem iH (hc:Cok cd n D bg) (hpl:pl<=text.size):∀ (k:Nat) (o:Option Thr) (s s':Mc),drive cd n D text pl k o s=some s'->(∀ t∈o.toList,okT n D t)->OkM n D s->ym ((text.size+1) * (n * (D+1))) s s'/\OkM n D s'
 | 0,_,_,_,h,_,_=>by cases h
 | k+1,some t,s,s',h,ht,hs=>by
  rw [drive] at h;have hok:=ht t (by simp);split at h
  .exact iH hc hpl k none s s' h (fun _ e=>by cases e) hs
  .rename_i hx;have hs1:OkM n D ({ s with sn:=more s.sn (seenAt n D pl t) }:Mc):=⟨hs.ahead,hs.left⟩;obtain ⟨f1,_,f3,f4⟩:=nR (text:=text) (pl:=pl) hc.ok hok hs1;have ih:=iH hc hpl k _ _ s' h (fun u hu=>f4 u (by simpa using hu)) f3;refine ⟨ym.trans ⟨fun x q=>?_,fun _=>.inr ?_⟩ ih.1,ih.2⟩
   .rw [f1];show (s.sn x || x == seenAt n D pl t)=true;rw [q];rfl
   .rw [f1];show uns (more s.sn (seenAt n D pl t)) 0 _ < _;have:=ry s.sn 0 (seenAt n D pl t) (by rw [NJ];exact hx) ((text.size+1) * (n * (D+1))) (uM hok.1 hok.2 hpl);rw [NJ] at this;omega
 | k+1,none,s,s',h,_,hs=>by
  rw [drive] at h;split at h
  .injection h with h;subst h;exact ⟨ym.refl _ _,hs⟩
  .rename_i t hl;have hsp:=Ds hl;have hs1:OkM n D ({ s with left:=s.left.dropLast }:Mc):=⟨hs.ahead,fun u hu=>hs.left u (by rw [hsp];exact OV _ hu)⟩
   have ih:=iH hc hpl k (some t) _ s' h (fun u hu=>by
    have e:u=t:=by simpa using hu
    rw [e]
    exact hs.left t (by rw [hsp];simp)) hs1
   exact ⟨⟨ih.1.1,ih.1.2⟩,ih.2⟩
theorem pX (hc:Cok cd n D bg) (hpl:pl<=text.size):∀ (l:List Thr) (s s':Mc),Sweep cd n D text pl l s s'->(∀ t∈l,okT n D t)->OkM n D s->ym ((text.size+1) * (n * (D+1))) s s'/\OkM n D s'
 | [],s,s',h,_,hs=>by rw [show s'=s from h];exact ⟨ym.refl _ _,hs⟩
 | t::l,s,s',h,ht,hs=>by
  rcases h with ⟨_,_,rfl⟩ | ⟨_,s1,⟨k,g⟩,q⟩
  .exact ⟨ym.refl _ _,hs⟩
  .have h1:=iH hc hpl k (some t) s s1 g (fun u hu=>ht u (by simp at hu ⊢;exact .inl hu)) hs;have h2:=pX hc hpl l s1 s' q (fun u hu=>ht u (by simp [hu])) h1.2;exact ⟨h1.1.trans h2.1,h2.2⟩
theorem uO (hc:Cok cd n D bg):∀ (k pl:Nat) (here:List Thr) (s s':Mc),Runs cd n D text bg k pl here s s'->k+pl<=text.size+1->(∀ t∈here,okT n D t)->OkM n D s->ym ((text.size+1) * (n * (D+1))) s s'/\OkM n D s'
 | 0,_,_,s,s',h,_,_,hs=>by rw [show s'=s from h];exact ⟨ym.refl _ _,hs⟩
 | k+1,pl,here,s,s',h,hk,hh,hs=>by
  rcases h with ⟨_,rfl⟩ | ⟨_,s1,w1,r1⟩
  .exact ⟨ym.refl _ _,hs⟩
  .have h1:=pX hc (by omega) _ s s1 w1 (fun u hu=>by
    split at hu
    .exact hh u hu
    .rcases List.mem_append.1 hu with e | e
     .exact hh u e
     .rw [List.mem_singleton.1 e];exact ⟨hc.bg,NI _⟩) hs
   have h2:=uO hc k (pl+1) s1.ahead { s1 with ahead:=[] } s' r1 (by omega) h1.2.ahead ⟨fun u hu=>(by cases hu),h1.2.left⟩;exact ⟨ym.trans h1.1 ⟨h2.1.1,h2.1.2⟩,h2.2⟩
theorem uP (hc:Cok cd n D bg):∀ (k pl:Nat) (here:List Thr) (s s':Mc),Runs cd n D text bg k pl here s s'->k+pl=text.size+1->fr<=pl->(∀ t∈here,Way cd text bg fr pl t)->s.left=[]->s.ahead=[]->Vd cd text bg fr s->s'.left=[]/\s'.ahead=[]
 | 0,pl,here,s,s',h,_,_,_,hl,ha,_=>by rw [show s'=s from h];exact ⟨hl,ha⟩
 | k+1,pl,here,s,s',h,hk,hf,hh,hl,ha,hv=>by
  rcases h with ⟨_,rfl⟩ | ⟨_,s1,sw,rn⟩
  .exact ⟨hl,ha⟩
  .obtain ⟨a1,a2,a3⟩:=iQ (fr:=fr) hc _ s s1 sw (fun z hz=>by
    split at hz
    .exact hh z hz
    .rcases List.mem_append.1 hz with e | e
     .exact hh z e
     .rw [List.mem_singleton.1 e];exact .start pl hf (by omega)) hl (by rw [ha];intro z hz;cases hz) hv
   exact uP hc k (pl+1) s1.ahead { s1 with ahead:=[] } s' rn (by omega) (by omega) a1 a3 rfl a2
end
def Nt (x:Nat->Int) (i:Nat):Prop:=∀ s,2<=s->-1<=x s/\x s<=i
theorem Nt.mono {x:Nat->Int} {i j:Nat} (h:Nt x i) (hij:i<=j):Nt x j:=fun s hs=>⟨(h s hs).1,by have:=(h s hs).2;omega⟩
theorem Nt.nu {x:Nat->Int} {i k:Nat} (h:Nt x i):Nt (nu x k i) i:=fun s hs=>by
 unfold Go.Proofs.YtiahkfoojjpaaaaGreatDoor.nu;split
 .exact ⟨by omega,Int.le_refl _⟩
 .exact h s hs
def Gd (text:ByteArray) (A:Rl):Prop:=∀ i tk x j tk' x',A i tk x j tk' x'->i<=text.size->Nt x i->i<=j/\j<=text.size/\Nt x' j/\∀ g,1<=g->x (2 * g)<=x (2 * g+1)->x' (2 * g)<=x' (2 * g+1)
section
variable {text:ByteArray} {A B:Rl}
theorem Gd.id:Gd text mId:=fun _ _ _ _ _ _ ⟨h1,h2,h3⟩ hi hx=>by subst h1 h2 h3;exact ⟨Nw _,hi,hx,fun _ _ h=>h⟩
theorem Gd.seq (h:Gd text A) (k:Gd text B):Gd text (qG A B):=fun _ _ _ _ _ _ ⟨_,_,_,a1,a2⟩ hi hx=>by
 obtain ⟨p1,p2,p3,p4⟩:=h _ _ _ _ _ _ a1 hi hx;obtain ⟨q1,q2,q3,q4⟩:=k _ _ _ _ _ _ a2 p2 p3;exact ⟨by omega,q2,q3,fun g hg hh=>q4 g hg (p4 g hg hh)⟩
theorem Gd.or (h:Gd text A) (k:Gd text B):Gd text (mOr A B):=fun _ _ _ _ _ _ q hi hx=>by
 rcases q with q | q
 .exact h _ _ _ _ _ _ q hi hx
 .exact k _ _ _ _ _ _ q hi hx
theorem Gd.times (h:Gd text A):∀ n,Gd text (xk A n)
 | 0=>Gd.id
 | n+1=>Gd.seq (Gd.times h n) h
theorem Gd.up (h:Gd text A):∀ n {B:Rl},Gd text B->Gd text (mUp A n B)
 | 0,_,hB=>hB
 | n+1,_,hB=>Gd.up h n (Gd.or (Gd.seq h hB) Gd.id)
theorem Gd.turns {d:Nat} (h:Gd text A):Gd text (oA A d):=fun _ _ _ _ _ _ q hi hx=>by
 induction q with
 | stop=>exact ⟨Nw _,hi,hx,fun _ _ h=>h⟩
 | turn a _ _ ih=>
  obtain ⟨p1,p2,p3,p4⟩:=h _ _ _ _ _ _ a hi hx;obtain ⟨q1,q2,q3,q4⟩:=ih p2 p3;exact ⟨by omega,q2,q3,fun g hg hh=>q4 g hg (p4 g hg hh)⟩
theorem Gd.one (m:Nat->Bool) (d:Nat):Gd text (mOne text m d):=fun _ _ _ _ _ _ ⟨⟨hk,_⟩,h1,h2,h3⟩ hi hx=>by
 subst h1 h2 h3;exact ⟨by omega,by omega,hx.mono (by omega),fun _ _ h=>h⟩
theorem Gd.Ee (k:Nat):Gd text (Kv text k):=fun _ _ _ _ _ _ ⟨_,h1,h2,h3⟩ hi hx=>by
 subst h1 h2 h3;exact ⟨Nw _,hi,hx,fun _ _ h=>h⟩
theorem Gd.group {g:Nat} (h:Gd text A) (hg0:1<=g):Gd text (BH g A):=fun i tk x j tk' x' ⟨x2,a1,a2⟩ hi hx=>by
 subst a2;obtain ⟨p1,p2,p3,p4⟩:=h _ _ _ _ _ _ a1 hi hx.nu;refine ⟨p1,p2,p3.nu,fun k hk hh=>?_⟩;by_cases e:k=g
 .subst e;have:=(p3 (2 * k) (by omega)).2;simp [nu];omega
 .have:=p4 k hk (by unfold nu;rw [Nr (by omega),Nr (by omega)];exact hh);unfold nu;rw [Nr (by omega),Nr (by omega)];exact this
theorem Gd.row {d:Nat}:∀ {l:List (Nat->Rl)},(∀ m∈l,∀ d,Gd text (m d))->Gd text (Dl l d)
 | [],_=>Gd.id
 | m::l,h=>Gd.seq (h m (by simp) d) (Gd.row fun k hk=>h k (by simp [hk]))
theorem Gd.any {d:Nat} {l:List (Nat->Rl)} (h:∀ m∈l,∀ d,Gd text (m d)):Gd text (MP l d):=fun _ _ _ _ _ _ ⟨m,hm,q⟩ hi hx=>h m hm d _ _ _ _ _ _ q hi hx
theorem yD {text:ByteArray}:∀ {l:List Pn} {m:Nat->Rl},m∈rlL text l->∃ x∈l,m=x.rl text
 | [],_,h=>by cases h
 | x::l,m,h=>by
  rcases List.mem_cons.1 (show m∈x.rl text::rlL text l from h) with e | e
  .exact ⟨x,by simp,e⟩
  .obtain ⟨y,hy,q⟩:=yD e;exact ⟨y,by simp [hy],q⟩
theorem Pn.Ok.gd (text:ByteArray) {x:Pn} (h:x.Ok):∀ d,Gd text (x.rl text d):=by
 induction h with
 | one m=>exact fun d=>Gd.one m d
 | Ee h=>exact fun d=>Gd.Ee _
 | group h1 h2 _ ih=>exact fun d=>Gd.group (ih d) h1
 | @rep x a b hb _ ih=>
  intro d
  cases b with
  | none=>exact Gd.seq (Gd.times (ih d) a) (Gd.turns (ih (d+1)))
  | some m=>exact Gd.seq (Gd.times (ih d) a) (Gd.up (ih d) (m - a) Gd.id)
 | @row l _ ih=>
  intro d;refine Gd.row fun m hm=>?_;obtain ⟨y,hy,rfl⟩:=yD hm;exact ih y hy
 | @brs l _ _ ih=>
  intro d;refine Gd.any fun m hm=>?_;obtain ⟨y,hy,rfl⟩:=yD hm;exact ih y hy
end
structure Jo (text:ByteArray) (fr:Nat) (b:Nat->Int):Prop where
 ends:∃ a e:Nat,b 0=a/\b 1=e/\fr<=a/\a<=e/\e<=text.size
 notes:∀ g,1<=g->-1<=b (2 * g)/\b (2 * g)<=b (2 * g+1)/\b (2 * g+1)<=text.size
section
variable {q:Ptn} {G:Nat}
theorem qT (h:pR G q.x):Cok q.cd q.n q.D q.bg:=by
 have hm:=h.ok.sm noB;obtain ⟨wf1,wf2⟩:=hm.wf 1 0 0 (1+q.x.pi.len) q.x.pi.dd (by omega) (by omega) (by omega);have hin:∀ a,a < q.x.pi.len->q.cd (a+1)∈(q.x.pi.em 1 0 0).1:=fun a ha=>by
  have hcl:(codeOf q.x.pi).length=1+q.x.pi.len:=by unfold codeOf;rw [NQ,hm.lens];omega
  have:(q.x.pi.em 1 0 0).1[a]? = some (q.cd (a+1)):=by
   have:=IP (l:=codeOf q.x.pi) (a:=a+1) (by omega);simpa [codeOf,Ptn.cd] using this
  exact NO this
 have c0:q.cd 0=fV 6 0 0 0 0:=by simp [Ptn.cd,cdL,codeOf]
 refine ⟨fun a ha=>?_,fun a ha h3=>?_,wf2⟩
 .match a,ha with
  | 0,_=>rw [c0];exact ⟨by simp,by unfold Ptn.n;simp;omega,by unfold Ptn.n;simp;omega,by simp,by simp⟩
  | a+1,ha=>
   obtain ⟨a1,a2,a3,a4,a5,_⟩:=wf1 _ (hin a (by unfold Ptn.n at ha;omega));exact ⟨by omega,a2,a3,a4,a5⟩
 .match a,ha with
  | 0,_=>rw [c0] at h3;simp at h3
  | a+1,ha=>exact (wf1 _ (hin a (by unfold Ptn.n at ha;omega))).2.2.2.2.2 h3
theorem best_ok {text:ByteArray} {fr:Nat} {s:Mc} (h:pR G q.x) (hv:Vd q.cd text q.bg fr s) (hf:s.fd=true):Jo text fr s.dQ:=by
 have hc:=qT h;have hm:=h.ok.sm text;obtain ⟨wf1,wf2⟩:=hm.wf 1 0 0 (1+q.x.pi.len) q.x.pi.dd (by omega) (by omega) (by omega);have hat:AtC q.cd 1 (q.x.pi.em 1 0 0).1:=fun k i hk=>by
  unfold Ptn.cd cdL codeOf;rw [show 1+k=k+1 by omega,List.getElem?_cons_succ,hk];rfl
 have gs:=hm.goes _ 1 0 0 hat;have c0:(q.cd 0).kind=6:=by simp [Ptn.cd,cdL,codeOf]
 have stuck:∀ (k j tk e:Nat) (x:Nat->Int) (f:Thr),Pth q.cd text k j ⟨0,tk,x⟩ e f->e=j/\f=⟨0,tk,x⟩:=fun k j tk e x f h=>by
  cases h with
  | nil=>exact ⟨rfl,rfl⟩
  | eps hu _=>
   unfold eps jL at hu;simp [c0] at hu
  | byte hb _=>rw [iB (by show (q.cd 0).kind≠0;omega)] at hb;cases hb
 obtain ⟨e,t,w,k6,hb⟩:=hv hf;obtain ⟨a,k,hfa,ha,pt⟩:=w.pth;obtain ⟨k',j,tk',x',_,hM,p2⟩:=gs.sound pt k6;obtain ⟨rfl,rfl⟩:=stuck _ _ _ _ _ _ p2;have hx:=(pth_ok hc pt ⟨wf2,NI _⟩).2;have hx':x' 0=(a:Int):=by simpa [nz] using hx
 have hn0:Nt (nz a) a:=fun s hs=>by
  unfold nz;rw [Nr (by omega)];exact ⟨Int.le_refl _,by omega⟩
 obtain ⟨g1,g2,g3,g4⟩:=h.ok.gd text 0 _ _ _ _ _ _ hM ha hn0;refine ⟨⟨a,e,by rw [hb];simp [nu,hx'],by rw [hb];simp [nu],hfa,g1,g2⟩,fun g hg=>?_⟩;have e1:s.dQ (2 * g)=x' (2 * g):=by rw [hb];unfold nu;rw [Nr (by omega)]
 have e2:s.dQ (2 * g+1)=x' (2 * g+1):=by rw [hb];unfold nu;rw [Nr (by omega)]
 rw [e1,e2];have n1:=g3 (2 * g) (by omega);have n2:=g3 (2 * g+1) (by omega);have:=g4 g hg (by unfold nz;rw [Nr (by omega),Nr (by omega)];exact Int.le_refl _);exact ⟨n1.1,this,by omega⟩
theorem jS {t:ByteArray} {fr:Nat} {s s':Mc} (h:Srch q t fr s s'):ud q t fr s=s':=by
 have hx:∃ s',Srch q t fr s s':=⟨s',h⟩;unfold ud;rw [dif_pos hx];exact A7 _ _ _ _ _ _ hx.choose_spec h
theorem qd {t:ByteArray} {fr:Nat} {s s':Mc} (hq:pR G q.x) (hfr:fr<=t.size+1) (hl:s.left=[]) (ha:s.ahead=[]) (h:Srch q t fr s s'):(s'.left=[]/\s'.ahead=[])/\(s'.fd=true->Jo t fr s'.dQ/\uns s'.sn 0 ((t.size+1) * (q.n * (q.D+1))) < uns s.sn 0 ((t.size+1) * (q.n * (q.D+1)))):=by
 have hc:=qT hq;have v0:Vd q.cd t q.bg fr ({ s with fd:=false }:Mc):=fun hf=>by cases hf
 have hs:OkM q.n q.D ({ s with fd:=false }:Mc):=⟨fun u hu=>(by rw [show ({ s with fd:=false }:Mc).ahead=s.ahead from rfl,ha] at hu;cases hu),fun u hu=>(by rw [show ({ s with fd:=false }:Mc).left=s.left from rfl,hl] at hu;cases hu)⟩;refine ⟨uP (fr:=fr) hc _ _ _ _ _ h (by omega) (Nw _) (fun t ht=>by cases ht) hl ha v0,fun hf=>?_⟩;have hv:=qg (fr:=fr) hc _ _ _ _ _ h (by omega) (Nw _) (fun t ht=>by cases ht) hl ha v0;have hle:=uO hc _ _ _ _ _ h (by omega) (fun t ht=>by cases ht) hs;refine ⟨best_ok hq hv hf,?_⟩;rcases hle.1.2 hf with e | e
 .cases e
 .exact e
theorem Bm {t:ByteArray} (hq:pR G q.x):∀ (k fr:Nat) (s:Mc),uns s.sn 0 ((t.size+1) * (q.n * (q.D+1))) < k->fr<=t.size+1->s.left=[]->s.ahead=[]->ItsG q.cd q.n q.D t q.bg (plcF q t k fr s) fr s
 | 0,_,_,h,_,_,_=>by omega
 | k+1,fr,s,h,hfr,hl,ha=>by
  unfold plcF;by_cases hf:(ud q t fr s).fd=true
  .rw [Ny hf];intro s' hr;have e:=jS (q:=q) (t:=t) (fr:=fr) (s:=s) hr;rw [e] at hf;obtain ⟨⟨l1,l2⟩,l3⟩:=qd hq hfr hl ha hr;obtain ⟨b1,b2⟩:=l3 hf;obtain ⟨a,z,_,hz,_,_,hzs⟩:=b1.ends;rw [e];refine ⟨hf,rfl,z,hz,b2,by omega,?_⟩;rw [hz,OZ];exact Bm hq k z s' (by omega) (by omega) l1 l2
  .rw [Nr hf];intro s' hr;rw [jS (q:=q) (t:=t) (fr:=fr) (s:=s) hr] at hf
   cases hh:s'.fd
   .rfl
   .exact absurd hh hf
theorem J8 (hq:pR G q.x) (t:List UInt8):ItsG q.cd q.n q.D (ba t) q.bg (q.C5 t) 0 mc0:=
 Bm hq _ 0 mc0 (by have:=AO mc0.sn 0 (((ba t).size+1) * (q.n * (q.D+1)));omega) (by omega) rfl rfl
def Plcd (t:ByteArray):Nat->List (Nat->Int)->Prop
 | _,[]=>True
 | fr,b::bs=>Jo t fr b/\Plcd t (b 1).toNat bs
theorem Gn {t:ByteArray} (hq:pR G q.x):∀ (k fr:Nat) (s:Mc),(∃ s',Srch q t fr s s')\/True->fr<=t.size+1->s.left=[]->s.ahead=[]->Plcd t fr (plcF q t k fr s)
 | 0,_,_,_,_,_,_=>trivial
 | k+1,fr,s,_,hfr,hl,ha=>by
  unfold plcF;by_cases hf:(ud q t fr s).fd=true
  .rw [Ny hf];by_cases hx:∃ s',Srch q t fr s s'
   .obtain ⟨s',hr⟩:=hx;have e:=jS (q:=q) (t:=t) (fr:=fr) (s:=s) hr;rw [e] at hf ⊢;obtain ⟨⟨l1,l2⟩,l3⟩:=qd hq hfr hl ha hr;obtain ⟨b1,b2⟩:=l3 hf;obtain ⟨a,z,_,hz,_,_,hzs⟩:=b1.ends;refine ⟨b1,Gn hq k _ s' (.inr trivial) (by rw [hz,OZ];omega) l1 l2⟩
   .unfold ud at hf;rw [dif_neg hx] at hf
    cases hf
  .rw [Nr hf]
   trivial
theorem plcs_ok (hq:pR G q.x) (t:List UInt8):Plcd (ba t) 0 (q.C5 t):=Gn hq _ 0 mc0 (.inr trivial) (by omega) rfl rfl
end
theorem jl (x:ByteArray):∀ (l:List (ByteArray×Nat)) (c i:Nat),l.any (fun q=>x == q.1)=false->Instr.findNow .string (.string x) (strE c l) i=some none
 | [],_,_,_=>rfl
 | (y,m)::l,c,i,h=>by
  simp only [List.any_cons,Bool.or_eq_false_iff] at h;have hxy:(x == y)=false:=h.1;rw [strE];simpa [Instr.findNow,Instr.sameNow,hxy] using jl x l (c+1) (i+1) h.2
theorem gW (x:ByteArray):∀ (l:List (ByteArray×Nat)) (c i:Nat) (y:ByteArray) (n:Nat),l.find? (fun q=>x == q.1)=some (y,n)->∃ j,Instr.findNow .string (.string x) (strE c l) i=some (some (j,.int .i64 (n:Nat)))
 | [],_,_,_,_,h=>by cases h
 | (z,m)::l,c,i,y,n,h=>by
  rw [strE];rw [OL] at h
  cases hxy:(x == z)
  .rw [hxy] at h;obtain ⟨j,q⟩:=gW x l (c+1) (i+1) y n h;exact ⟨j,by simpa [Instr.findNow,Instr.sameNow,hxy] using q⟩
  .rw [hxy] at h;injection h with h;injection h with h1 h2;subst h2;exact ⟨i,by simp [Instr.findNow,Instr.sameNow,hxy]⟩
theorem Jb (x:ByteArray):∀ (l:List ByteArray) (k:Nat),(l.zipIdx k).any (fun q=>x == q.1)=(l.findIdx? (x == ·)).isSome
 | [],_=>rfl
 | y::l,k=>by
  rw [Po,List.any_cons,Jb x l (k+1),List.findIdx?_cons]
  cases (x == y)
  .simp
  .simp
theorem tG (x:ByteArray):∀ (l:List ByteArray) (k i:Nat),l.findIdx? (x == ·)=some i->∃ y,(l.zipIdx k).find? (fun q=>x == q.1)=some (y,k+i)
 | [],_,_,h=>by cases h
 | y::l,k,i,h=>by
  rw [List.findIdx?_cons] at h;rw [Po,OL]
  cases hxy:(x == y)
  .rw [hxy] at h;simp only [OY,if_false,Option.map_eq_some_iff] at h;obtain ⟨j,hj,rfl⟩:=h;obtain ⟨z,hz⟩:=tG x l (k+1) j hj;refine ⟨z,?_⟩;rw [show k+(j+1)=k+1+j by omega];exact hz
  .rw [hxy] at h;simp at h;subst h;exact ⟨y,rfl⟩
structure NmR (σ:Sst) (l:List ByteArray):Prop where
 ns:σ.ns=l
 nm:σ.nm=l.zipIdx
def NmTo (σ σ':Sst) (l':List ByteArray):Prop:=NmR σ' l'/\∃ v,σ'={ σ with nm:=σ'.nm,vn:=v,ns:=σ'.ns }
def FlC (cv:List Value) (c:du):List Value:=((((cv.set 6 (.string c.name)).set 7 (.int .i64 c.file)).set 16 (.bool c.all)).set 17 (.int .i64 c.number)).set 18 (.bool c.print)
section
variable {cv:List Value} {c:du}
theorem FlC.len (hl:Cv cv):Cv (FlC cv c):=((((hl.set 6 rfl).set 7 rfl).set 16 rfl).set 17 rfl).set 18 rfl
theorem FlC.c16 (hl:Cv cv):(FlC cv c)[16]? = some (.bool c.all):=by
 obtain ⟨x0,x1,x2,x3,x4,x5,x6,x7,x8,x9,x10,x11,x12,x13,x14,x15,x16,x17,x18,x19,x20,x21,x22,rfl⟩:=dR hl.len
 rfl
theorem FlC.c17 (hl:Cv cv):(FlC cv c)[17]? = some (.int .i64 c.number):=by
 obtain ⟨x0,x1,x2,x3,x4,x5,x6,x7,x8,x9,x10,x11,x12,x13,x14,x15,x16,x17,x18,x19,x20,x21,x22,rfl⟩:=dR hl.len
 rfl
theorem FlC.c18 (hl:Cv cv):(FlC cv c)[18]? = some (.bool c.print):=by
 obtain ⟨x0,x1,x2,x3,x4,x5,x6,x7,x8,x9,x10,x11,x12,x13,x14,x15,x16,x17,x18,x19,x20,x21,x22,rfl⟩:=dR hl.len
 rfl
theorem FlC.all (hl:Cv cv):(FlC cv c).set 16 (.bool true)=FlC cv { c with all:=true }:=by
 obtain ⟨x0,x1,x2,x3,x4,x5,x6,x7,x8,x9,x10,x11,x12,x13,x14,x15,x16,x17,x18,x19,x20,x21,x22,rfl⟩:=dR hl.len
 rfl
theorem FlC.print (hl:Cv cv):(FlC cv c).set 18 (.bool true)=FlC cv { c with print:=true }:=by
 obtain ⟨x0,x1,x2,x3,x4,x5,x6,x7,x8,x9,x10,x11,x12,x13,x14,x15,x16,x17,x18,x19,x20,x21,x22,rfl⟩:=dR hl.len
 rfl
theorem FlC.number (hl:Cv cv) (n:Nat):(FlC cv c).set 17 (.int .i64 n)=FlC cv { c with number:=n }:=by
 obtain ⟨x0,x1,x2,x3,x4,x5,x6,x7,x8,x9,x10,x11,x12,x13,x14,x15,x16,x17,x18,x19,x20,x21,x22,rfl⟩:=dR hl.len
 rfl
theorem FlC.file (hl:Cv cv) (x:ByteArray) (n:Nat):((FlC cv c).set 6 (.string x)).set 7 (.int .i64 n)=FlC cv { c with name:=x,file:=n }:=by
 obtain ⟨x0,x1,x2,x3,x4,x5,x6,x7,x8,x9,x10,x11,x12,x13,x14,x15,x16,x17,x18,x19,x20,x21,x22,rfl⟩:=dR hl.len
 rfl
end
section
variable {w0 w:World} {b cb k:Nat} {src:ByteArray} {σ:Sst} {cv:List Value} {c:du} {r:RdS}
def FileO (w0:World) (b cb:Nat) (src:ByteArray) (σ:Sst) (cv:List Value) (q:Nat×RdS×du) (w':World):Prop:=
 ∃ σ',Sr w0 w' b src q.1 σ'/\Bl w' cb (FlC cv q.2.2)/\Sr.Far w0 b σ' cb/\NmTo σ σ' q.2.1.names
theorem MV (hs:Sr w0 w b src k σ) (hb:Bl w cb (FlC cv c)) (hl:Cv cv) (hf:Sr.Far w0 b σ cb) (hsl:Small σ 2000) (hn:NmR σ r.names) :
  Calls Tryz.prog 100 #[.pointer (some ⟨b,0,none⟩),.pointer (some ⟨cb,0,none⟩)] w (OpO (fileE src k r c) w0 (FileO w0 b cb src σ cv)):=by
 unfold fileE wordE;have hle:=eF hs.cur.le
 cases h:wdE src (blk src k) (src.size+1) (blk src k) with
 | error pl=>
  have H:=hid (rp (by omega) hle h);go_enter Tryz.func100,Tryz.ntmps100
  go_wp2_with fail;refine (Ei hs.e H.out).mono ?_;rintro q w1 ⟨rfl,m1⟩;go_wp2_with fail;exact ⟨rfl,rfl,hs.qL m1⟩
 | ok e=>
  dsimp only;refine (file_c hs hb (FlC.len hl) hf hsl (uk h) rfl).mono ?_;rintro q w1 ⟨σ',cv',rfl,s1,b1,l1,f1,hnam⟩;rcases hnam with ⟨hno,v,hσ,rfl⟩ | ⟨j,n,hyes,hσ,rfl⟩
  .cases hi:r.names.findIdx? (src.extract (blk src k) e == ·) with
   | none=>
    refine ⟨rfl,σ',s1,?_,f1,⟨?_,?_⟩,⟨v,?_⟩⟩
    .rw [FlC.file hl] at b1;rw [hn.ns] at b1;exact b1
    .rw [hσ];show σ.ns++_=_;rw [hn.ns]
    .rw [hσ];show σ.nm++[(_,σ.ns.length)]=_;rw [hn.nm,hn.ns,List.zipIdx_append];simp
    .rw [hσ]
   | some i=>
    obtain ⟨y,hy⟩:=tG _ _ 0 i hi;obtain ⟨j,hj⟩:=gW _ _ 0 0 y (0+i) hy;rw [hn.nm,hj] at hno
    cases hno
  .cases hi:r.names.findIdx? (src.extract (blk src k) e == ·) with
   | none=>
    have hj:=jl (src.extract (blk src k) e) r.names.zipIdx 0 0 (by rw [Jb,hi];rfl);rw [hn.nm,hj] at hyes
    cases hyes
   | some i=>
    obtain ⟨y,hy⟩:=tG _ _ 0 i hi;obtain ⟨j',hj⟩:=gW _ _ 0 0 y (0+i) hy;rw [hn.nm,hj] at hyes;have e1:n=i:=by
     injection hyes with hyes;injection hyes with hyes;injection hyes with _ hyes;injection hyes with _ hyes;omega
    subst e1 hσ;refine ⟨rfl,σ',s1,?_,f1,⟨hn.ns,hn.nm⟩,⟨σ'.vn,rfl⟩⟩;rw [FlC.file hl] at b1;exact b1
theorem flags_o (hs:Sr w0 w b src k σ) (hb:Bl w cb (FlC cv c)) (hl:Cv cv) (hf:Sr.Far w0 b σ cb) (hsl:Small σ 2000) (hn:NmR σ r.names) (hcn:c.number<=1000000) :
  Calls Tryz.prog 142 #[.pointer (some ⟨b,0,none⟩),.pointer (some ⟨cb,0,none⟩)] w (OpO (flagsE src (src.size+1) k r c) w0 (FileO w0 b cb src σ cv)):=by
 obtain ⟨R,hR⟩:∃ R,R=flagsE src (src.size+1) k r c:=⟨_,rfl⟩;rw [<-hR];have HRE:=hid hR;clear hR;have hsm:=hs.cur.small;have hne:cb≠b:=fun e=>hf.bk 0 (by rw [e];rfl);have HF:=hid hf;have HL:=hid hl;have HS:=hid hs;have HB:=hid hb;have HX:=hid (And.intro hsl hn);have hksz:=hs.cur.le;clear hl hf hs hb hsl hn;go_enter Tryz.func142,Tryz.ntmps142
 go_wp2_with fail;go_loopw [4] (fun _ wr=>∃ (a j:Nat) (d:du),a<=src.size/\src.size+1<=a+j/\d.number<=1000000/\Hid (Sr w0 wr b src a σ)/\Hid (Bl wr cb (FlC cv d))/\Hid (R=flagsE src j a r d)) (fun _ wr=>3000 - im wr b)
 case atStart=>exact ⟨k,src.size+1,c,hksz,by omega,hcn,HS,HB,HRE⟩
 case round=>
  clear HS HB HRE;obtain ⟨a,j,d,hal,haj,hdn,HS,HB,HN⟩:=hrel;have HAT:=hid (aC HS.out.cur)
  match j,HN,haj with
  | 0,_,haj=>omega
  | j+1,HN,haj=>
  have hN:=HN.out;unfold flagsE at hN;clear HN;obtain ⟨g,hg⟩:∃ g,d.all=g:=⟨_,rfl⟩;obtain ⟨p,hp⟩:∃ p,d.print=p:=⟨_,rfl⟩;obtain ⟨n,hnn⟩:∃ n,d.number=n:=⟨_,rfl⟩;have q16:=HB.out.at_ 16 _ (FlC.c16 HL.out);have q17:=HB.out.at_ 17 _ (FlC.c17 HL.out);have q18:=HB.out.at_ 18 _ (FlC.c18 HL.out);rw [hg] at q16;rw [hnn] at q17;rw [hp] at q18;obtain ⟨t1,ht1⟩:∃ t1,t1=(!g && saw src a 103):=⟨_,rfl⟩;go_upto_region 0 with fail
  go_cut [4] from 5 (fun v wx=>∃ wz,wz=wx/\v=.bool t1/\Hid (Sr w0 wz b src (if t1=true then a+1 else a) σ)/\Hid (Bl wz cb (FlC cv d)))
  case first=>
   cases g
   .have ht:saw src a 103=t1:=by rw [ht1];rfl
    have HT:=hid (aX 103 HS.out.cur ht);clear ht ht1 hN;go_wp2_with fail;refine HT.out.mono ?_;rintro q w1 ⟨rfl,h1,m1⟩;have S1:=hid (HS.out.move m1 h1);have B1:=hid (HB.out.aj m1.kp (by simpa using hne));go_wp2_with fail;go_meet
    case rel=>exact ⟨_,rfl,rfl,S1,B1⟩
   .have ht:t1=false:=by rw [ht1];rfl
    subst ht;clear ht1 hN;go_wp2_with fail;go_meet
    case rel=>exact ⟨_,rfl,rfl,HS,HB⟩
  case rest=>
  obtain ⟨wa,hwa,rfl,SA,BA⟩:=hcut;subst hwa;clear HS HB q16 q17 q18
  cases t1
  case true=>
   have hgs:g=false/\saw src a 103=true:=by
    cases g
    .exact ⟨rfl,by rw [Bool.not_false,OU] at ht1;exact ht1.symm⟩
    .cases ht1
   rw [Ny ⟨hg.trans hgs.1,hgs.2⟩] at hN;have hlt:=aM hgs.2;have HN:=hid hN;clear hN ht1 hgs hg hp hnn;have S1:Hid (Sr w0 wa b src (a+1) σ):=SA;have q16:=BA.out.at_ 16 _ (FlC.c16 HL.out);have f16:=BA.out.free 16;clear SA;go_wp2_with fail;have k9:Kp [cb] wa (wa.setCell ⟨cb,16,none⟩ (.bool true)):=Kp.setCell _ _ (by simp);have S9:=hid (S1.out.other k9 (fun y hy=>by simp at hy;rw [hy];exact HF.out))
   have B9:Hid (Bl (wa.setCell ⟨cb,16,none⟩ (.bool true)) cb (FlC cv { d with all:=true })):=hid (by
    have:=BA.out.set 16 (.bool true) (by rw [(FlC.len HL.out).len];omega)
    rwa [FlC.all HL.out] at this)
   have HCA:=hid (aC S9.out.cur);go_round
   case rel=>exact ⟨a+1,j,{ d with all:=true },by omega,by omega,by show d.number<=_;omega,S9,B9,HN⟩
   case measure=>rw [HCA.out,HAT.out];omega
  case false=>
  rw [Nr (fun q=>by rw [<-hg,q.1,q.2] at ht1;cases ht1)] at hN;have S1:Hid (Sr w0 wa b src a σ):=SA;clear SA ht1;have q18:=BA.out.at_ 18 _ (FlC.c18 HL.out);rw [hp] at q18;obtain ⟨t2,ht2⟩:∃ t2,t2=(!p && saw src a 112):=⟨_,rfl⟩;go_upto_region 2 with fail
  go_cut [21] from 22 (fun v wx=>∃ wz,wz=wx/\v=.bool t2/\Hid (Sr w0 wz b src (if t2=true then a+1 else a) σ)/\Hid (Bl wz cb (FlC cv d)))
  case first=>
   cases p
   .have ht:saw src a 112=t2:=by rw [ht2];rfl
    have HT:=hid (aX 112 S1.out.cur ht);clear ht ht2 hN;go_wp2_with fail;refine HT.out.mono ?_;rintro q w1 ⟨rfl,h1,m1⟩;have S2:=hid (S1.out.move m1 h1);have B2:=hid (BA.out.aj m1.kp (by simpa using hne));go_wp2_with fail;go_meet
    case rel=>exact ⟨_,rfl,rfl,S2,B2⟩
   .have ht:t2=false:=by rw [ht2];rfl
    subst ht;clear ht2 hN;go_wp2_with fail;go_meet
    case rel=>exact ⟨_,rfl,rfl,S1,BA⟩
  case rest=>
  obtain ⟨wc,hwc,rfl,SC,BC⟩:=hcut;subst hwc;clear S1 BA q18
  cases t2
  case true=>
   have hgs:p=false/\saw src a 112=true:=by
    cases p
    .exact ⟨rfl,by rw [Bool.not_false,OU] at ht2;exact ht2.symm⟩
    .cases ht2
   rw [Ny ⟨hp.trans hgs.1,hgs.2⟩] at hN;have hlt:=aM hgs.2;have HN:=hid hN;clear hN ht2 hgs hg hp hnn;have S1:Hid (Sr w0 wc b src (a+1) σ):=SC;have q18:=BC.out.at_ 18 _ (FlC.c18 HL.out);have f18:=BC.out.free 18;clear SC;go_wp2_with fail;have k9:Kp [cb] wc (wc.setCell ⟨cb,18,none⟩ (.bool true)):=Kp.setCell _ _ (by simp);have S9:=hid (S1.out.other k9 (fun y hy=>by simp at hy;rw [hy];exact HF.out))
   have B9:Hid (Bl (wc.setCell ⟨cb,18,none⟩ (.bool true)) cb (FlC cv { d with print:=true })):=hid (by
    have:=BC.out.set 18 (.bool true) (by rw [(FlC.len HL.out).len];omega)
    rwa [FlC.print HL.out] at this)
   have HCA:=hid (aC S9.out.cur);go_round
   case rel=>exact ⟨a+1,j,{ d with print:=true },by omega,by omega,by show d.number<=_;omega,S9,B9,HN⟩
   case measure=>rw [HCA.out,HAT.out];omega
  case false=>
  rw [Nr (fun q=>by rw [<-hp,q.1,q.2] at ht2;cases ht2)] at hN;have S1:Hid (Sr w0 wc b src a σ):=SC;clear SC ht2;have q17:=BC.out.at_ 17 _ (FlC.c17 HL.out);rw [hnn] at q17;obtain ⟨t3,ht3⟩:∃ t3,t3=((n == 0) && isD src a):=⟨_,rfl⟩;go_upto_region 4 with fail
  go_cut [38] from 39 (fun v wx=>∃ wz,wz=wx/\v=.bool t3/\Hid (Sr w0 wz b src a σ)/\Hid (Bl wz cb (FlC cv d)))
  case first=>
   by_cases hn0:n=0
   .have ht:isD src a=t3:=by rw [ht3,hn0];rfl
    have HT:=hid (dw S1.out.cur ht);have hz:((n:Int) == 0)=true:=by rw [hn0];rfl
    clear ht ht3 hN hn0;go_wp2_with fail;refine HT.out.mono ?_;rintro q w1 ⟨rfl,h1,m1⟩;have S2:=hid (S1.out.move m1 h1);have B2:=hid (BC.out.aj m1.kp (by simpa using hne));go_wp2_with fail;go_meet
    case rel=>exact ⟨_,rfl,rfl,S2,B2⟩
   .have ht:t3=false:=by
     rw [ht3,show (n == 0)=false by rw [Nz];exact hn0]
     rfl
    have hz:((n:Int) == 0)=false:=by rw [Nz];omega
    subst ht;clear ht3 hN hn0;go_wp2_with fail;go_meet
    case rel=>exact ⟨_,rfl,rfl,S1,BC⟩
  case rest=>
  obtain ⟨we,hwe,rfl,SE,BE⟩:=hcut;subst hwe;clear S1 BC q17
  cases t3
  case true=>
   have hgs:n=0/\isD src a=true:=by
    cases hz:(n == 0)
    .rw [hz] at ht3;cases ht3
    .rw [hz,OU] at ht3;exact ⟨by simpa using hz,ht3.symm⟩
   rw [Ny ⟨hnn.trans hgs.1,hgs.2⟩] at hN;have NS:=hid (num_s (lo:=1) (hi:=1000000) (by omega) SE.out.e)
   cases hnm:Js src 1 1000000 a with
   | error pl=>
    rw [hnm] at hN NS;have HN:=hid hN;clear hN hnm ht3 hgs hg hp hnn;go_wp2_with fail;refine NS.out.mono ?_;rintro q w1 ⟨rfl,m1⟩;go_wp2_with fail;refine ⟨rfl,?_⟩;rw [HN.out];exact ⟨rfl,SE.out.qL m1⟩
   | ok q=>
    obtain ⟨e1,x⟩:=q;rw [hnm] at hN NS;replace hN:R=flagsE src j e1 r { d with number:=x }:=hN;have hxe:=yQ (lo:=1) (hi:=1000000) hal (by omega) hnm;have hlt:=(hxe.2.2.2 (by omega) hgs.2).1;have HN:=hid hN;clear hN hnm ht3 hgs hg hp hnn;go_wp2_with fail;refine NS.out.mono ?_;rintro q w1 ⟨rfl,h1,m1⟩;have h1:Cur w1 b src e1:=h1;have S2:=hid (SE.out.move m1 h1);have B2:=hid (BE.out.aj m1.kp (by simpa using hne));have q17:=B2.out.at_ 17 _ (FlC.c17 HL.out);have f17:=B2.out.free 17;clear h1 m1;go_wp2_with fail;have k9:Kp [cb] w1 (w1.setCell ⟨cb,17,none⟩ (.int .i64 (x:Nat))):=Kp.setCell _ _ (by simp);have S9:=hid (S2.out.other k9 (fun y hy=>by simp at hy;rw [hy];exact HF.out))
    have B9:Hid (Bl (w1.setCell ⟨cb,17,none⟩ (.int .i64 (x:Nat))) cb (FlC cv { d with number:=x })):=hid (by
     have:=B2.out.set 17 (.int .i64 (x:Nat)) (by rw [(FlC.len HL.out).len];omega)
     rwa [FlC.number HL.out] at this)
    have HCA:=hid (aC S9.out.cur);go_round
    case rel=>exact ⟨e1,j,{ d with number:=x },hxe.2.1,by omega,hxe.2.2.1,S9,B9,HN⟩
    case measure=>rw [HCA.out,HAT.out];omega
  case false=>
  rw [Nr (fun q=>by rw [<-hnn,q.1,q.2] at ht3;cases ht3)] at hN;clear ht3
  cases h119:saw src a 119
  case true=>
   rw [h119,Ny rfl] at hN;have HN:=hid hN;have HT:=hid (aX 119 SE.out.cur h119);clear hN h119 hg hp hnn;go_wp2_with fail;refine HT.out.mono ?_;rintro q w1 ⟨rfl,h1,m1⟩;have h1:Cur w1 b src (a+1):=h1;have S2:=hid (SE.out.move m1 h1);have B2:=hid (BE.out.aj m1.kp (by simpa using hne));clear h1 m1;go_wp2_with fail;refine (MV (c:=d) (r:=r) S2.out B2.out HL.out HF.out HX.out.1 HX.out.2).mono ?_;rw [<-HN.out];intro q w2 hq;have HQ:=hid hq;clear hq
   cases hRR:R with
   | ok y=>
    rw [hRR] at HQ;obtain ⟨rfl,hq⟩:=HQ.out;have HQ2:=hid hq;clear hq HQ;go_wp2_with fail;refine bodyPost_ret (results_none rfl _ _ _) rfl ?_;rw [hRR];exact ⟨rfl,HQ2.out⟩
   | error y=>
    obtain ⟨E,pl⟩:=y;rw [hRR] at HQ;obtain ⟨rfl,hq⟩:=HQ.out;have HQ2:=hid hq;clear hq HQ;go_wp2_with fail;refine ⟨rfl,?_⟩;rw [hRR];exact ⟨rfl,HQ2.out⟩
  case false=>
   rw [h119,Nr (by simp)] at hN;have HN:=hid hN;have HT:=hid (aX 119 SE.out.cur h119);clear hN h119 hg hp hnn;go_wp2_with fail;refine HT.out.mono ?_;rintro q w1 ⟨rfl,h1,m1⟩;have h1:Cur w1 b src a:=h1;have S2:=hid (SE.out.move m1 h1);have B2:=hid (BE.out.aj m1.kp (by simpa using hne));clear h1 m1;go_wp2_with fail;refine bodyPost_ret (results_none rfl _ _ _) rfl ?_;rw [HN.out];exact ⟨rfl,σ,S2.out,B2.out,HF.out,⟨HX.out.2.ns,HX.out.2.nm⟩,⟨σ.vn,rfl⟩⟩
end
