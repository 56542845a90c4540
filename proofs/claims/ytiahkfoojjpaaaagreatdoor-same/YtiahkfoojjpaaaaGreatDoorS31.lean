import Derived.Test.YtiahkfoojjpaaaaGreatDoorS30
set_option maxRecDepth 100000
set_option maxHeartbeats 16000000
set_option linter.all false
namespace Go.Proofs.YtiahkfoojjpaaaaGreatDoor
open Go.RowKit
section
variable {cd:Nat->In}{n D bg fr pl:Nat}{text:ByteArray}{s s':Mc}
theorem yh:∀(l:List Thr) (s a b:Mc),jr cd n D text pl l s a->jr cd n D text pl l s b->a=b
 | [],s,a,b,h,k=>by rw[show a=s from h,show b=s from k]
 | t::l,s,a,b,h,k=>by
  rcases h with⟨h1,h2,rfl⟩|⟨h1,s1,⟨k1,g1⟩,q1⟩<;>rcases k with⟨j1,j2,rfl⟩|⟨j1,s2,⟨k2,g2⟩,q2⟩
  .rfl
  .exact absurd ⟨h1,h2⟩ j1
  .exact absurd ⟨j1,j2⟩ h1
  .have e:=zG g1 g2;subst e;exact yh l s1 a b q1 q2
theorem CY:∀(k pl:Nat) (here:List Thr) (s a b:Mc),oW cd n D text bg k pl here s a->oW cd n D text bg k pl here s b->a=b
 | 0,_,_,s,a,b,h,k=>by rw[show a=s from h,show b=s from k]
 | k+1,pl,here,s,a,b,h,q=>by
  rcases h with⟨h1,rfl⟩|⟨h1,s1,w1,r1⟩<;>rcases q with⟨q1,rfl⟩|⟨q1,s2,w2,r2⟩
  .rfl
  .exact absurd h1 q1
  .exact absurd q1 h1
  .have e:=yh _ _ _ _ w1 w2;subst e;exact CY k (pl+1) _ _ a b r1 r2
theorem uc{sn sn':Nat->Bool}(h:∀x,sn x=true->sn' x=true)(v:Nat):∀N,uns sn' v N<=uns sn v N
 | 0=>QD _
 | N+1=>by
  have ih:=uc h v N;unfold uns
  cases h1:sn (v+N)
  .cases h2:sn' (v+N)<;>simp<;>omega
  .rw[h _ h1];simp;exact ih
def Ar(M:Nat)(s s':Mc):Prop:=(∀x,s.sn x=true->s'.sn x=true)/\(s'.fd=true->s.fd=true\/uns s'.sn 0 M<uns s.sn 0 M)
theorem Ar.refl(M:Nat)(s:Mc):Ar M s s:=⟨fun _ h=>h,fun h=>.inl h⟩
theorem Ar.trans{M:Nat}{a b c:Mc}(h:Ar M a b)(k:Ar M b c):Ar M a c:=by
 refine⟨fun x hx=>k.1 x (h.1 x hx),fun hf=>?_⟩;have u1:=uc h.1 0 M;have u2:=uc k.1 0 M;rcases k.2 hf with e|e
 .rcases h.2 e with q|q
  .exact .inl q
  .exact .inr (by omega)
 .exact .inr (by omega)
theorem jm(hc:Cok cd n D bg)(hpl:pl<=text.size):∀(k:Nat) (o:Option Thr) (s s':Mc),eQ cd n D text pl k o s=some s'->(∀t∈o.toList,okT n D t)->OkM n D s->Ar ((text.size+1)*(n*(D+1))) s s'/\OkM n D s'
 | 0,_,_,_,h,_,_=>by cases h
 | k+1,some t,s,s',h,ht,hs=>by
  rw[eQ] at h;have hok:=ht t (by simp);split at h
  .exact jm hc hpl k none s s' h (fun _ e=>by cases e) hs
  .rename_i hx;have hs1:OkM n D ({ s with sn:=more s.sn (seenAt n D pl t)}:Mc):=⟨hs.ahead,hs.left⟩;obtain⟨f1,_,f3,f4⟩:=pL (text:=text) (pl:=pl) hc.ok hok hs1;have ih:=jm hc hpl k _ _ s' h (fun u hu=>f4 u (by simpa using hu)) f3;refine⟨Ar.trans ⟨fun x q=>?_,fun _=>.inr ?_⟩ ih.1,ih.2⟩
   .rw[f1];show(s.sn x||x==seenAt n D pl t)=true;rw[q];rfl
   .rw[f1];show uns (more s.sn (seenAt n D pl t)) 0 _<_;have:=ud s.sn 0 (seenAt n D pl t) (by rw[QH];exact hx) ((text.size+1)*(n*(D+1))) (yu hok.1 hok.2 hpl);rw[QH] at this;omega
 | k+1,none,s,s',h,_,hs=>by
  rw[eQ] at h;split at h
  .injection h with h;subst h;exact⟨Ar.refl _ _,hs⟩
  .rename_i t hl;have hsp:=F9 hl;have hs1:OkM n D ({ s with left:=s.left.dropLast}:Mc):=⟨hs.ahead,fun u hu=>hs.left u (by rw[hsp];exact Sj _ hu)⟩
   have ih:=jm hc hpl k (some t) _ s' h (fun u hu=>by
    have e:u=t:=by simpa using hu
    rw[e]
    exact hs.left t (by rw[hsp];simp)) hs1
   exact⟨⟨ih.1.1,ih.1.2⟩,ih.2⟩
theorem rG(hc:Cok cd n D bg)(hpl:pl<=text.size):∀(l:List Thr) (s s':Mc),jr cd n D text pl l s s'->(∀t∈l,okT n D t)->OkM n D s->Ar ((text.size+1)*(n*(D+1))) s s'/\OkM n D s'
 | [],s,s',h,_,hs=>by rw[show s'=s from h];exact⟨Ar.refl _ _,hs⟩
 | t::l,s,s',h,ht,hs=>by
  rcases h with⟨_,_,rfl⟩|⟨_,s1,⟨k,g⟩,q⟩
  .exact⟨Ar.refl _ _,hs⟩
  .have h1:=jm hc hpl k (some t) s s1 g (fun u hu=>ht u (by simp at hu ⊢;exact .inl hu)) hs;have h2:=rG hc hpl l s1 s' q (fun u hu=>ht u (by simp[hu])) h1.2;exact⟨h1.1.trans h2.1,h2.2⟩
theorem yw(hc:Cok cd n D bg):∀(k pl:Nat) (here:List Thr) (s s':Mc),oW cd n D text bg k pl here s s'->k+pl<=text.size+1->(∀t∈here,okT n D t)->OkM n D s->Ar ((text.size+1)*(n*(D+1))) s s'/\OkM n D s'
 | 0,_,_,s,s',h,_,_,hs=>by rw[show s'=s from h];exact⟨Ar.refl _ _,hs⟩
 | k+1,pl,here,s,s',h,hk,hh,hs=>by
  rcases h with⟨_,rfl⟩|⟨_,s1,w1,r1⟩
  .exact⟨Ar.refl _ _,hs⟩
  .have h1:=rG hc (by omega) _ s s1 w1 (fun u hu=>by
    split at hu
    .exact hh u hu
    .rcases List.mem_append.1 hu with e|e
     .exact hh u e
     .rw[List.mem_singleton.1 e];exact⟨hc.bg,QG _⟩) hs
   have h2:=yw hc k (pl+1) s1.ahead { s1 with ahead:=[]} s' r1 (by omega) h1.2.ahead ⟨fun u hu=>(by cases hu),h1.2.left⟩;exact⟨Ar.trans h1.1 ⟨h2.1.1,h2.1.2⟩,h2.2⟩
theorem yx(hc:Cok cd n D bg):∀(k pl:Nat) (here:List Thr) (s s':Mc),oW cd n D text bg k pl here s s'->k+pl=text.size+1->fr<=pl->(∀t∈here,Way cd text bg fr pl t)->s.left=[]->s.ahead=[]->Vd cd text bg fr s->s'.left=[]/\s'.ahead=[]
 | 0,pl,here,s,s',h,_,_,_,hl,ha,_=>by rw[show s'=s from h];exact⟨hl,ha⟩
 | k+1,pl,here,s,s',h,hk,hf,hh,hl,ha,hv=>by
  rcases h with⟨_,rfl⟩|⟨_,s1,sw,rn⟩
  .exact⟨hl,ha⟩
  .obtain⟨a1,a2,a3⟩:=jA (fr:=fr) hc _ s s1 sw (fun z hz=>by
    split at hz
    .exact hh z hz
    .rcases List.mem_append.1 hz with e|e
     .exact hh z e
     .rw[List.mem_singleton.1 e];exact .start pl hf (by omega)) hl (by rw[ha];intro z hz;cases hz) hv
   exact yx hc k (pl+1) s1.ahead { s1 with ahead:=[]} s' rn (by omega) (by omega) a1 a3 rfl a2
end
def Nt(x:Nat->Int)(i:Nat):Prop:=∀s,2<=s->-1<=x s/\x s<=i
theorem Nt.mono{x:Nat->Int}{i j:Nat}(h:Nt x i)(hij:i<=j):Nt x j:=fun s hs=>⟨(h s hs).1,by have:=(h s hs).2;omega⟩
theorem Nt.nu{x:Nat->Int}{i k:Nat}(h:Nt x i):Nt (nu x k i) i:=fun s hs=>by
 unfold Go.Proofs.YtiahkfoojjpaaaaGreatDoor.nu;split
 .exact⟨by omega,Int.le_refl _⟩
 .exact h s hs
def Gd(text:ByteArray)(A:Rl):Prop:=∀i tk x j tk' x',A i tk x j tk' x'->i<=text.size->Nt x i->i<=j/\j<=text.size/\Nt x' j/\∀g,1<=g->x (2*g)<=x (2*g+1)->x' (2*g)<=x' (2*g+1)
section
variable {text:ByteArray}{A B:Rl}
theorem Gd.id:Gd text mId:=fun _ _ _ _ _ _ ⟨h1,h2,h3⟩ hi hx=>by subst h1 h2 h3;exact⟨QD _,hi,hx,fun _ _ h=>h⟩
theorem Gd.seq(h:Gd text A)(k:Gd text B):Gd text (te A B):=fun _ _ _ _ _ _ ⟨_,_,_,a1,a2⟩ hi hx=>by
 obtain⟨p1,p2,p3,p4⟩:=h _ _ _ _ _ _ a1 hi hx;obtain⟨q1,q2,q3,q4⟩:=k _ _ _ _ _ _ a2 p2 p3;exact⟨by omega,q2,q3,fun g hg hh=>q4 g hg (p4 g hg hh)⟩
theorem Gd.or(h:Gd text A)(k:Gd text B):Gd text (mOr A B):=fun _ _ _ _ _ _ q hi hx=>by
 rcases q with q|q
 .exact h _ _ _ _ _ _ q hi hx
 .exact k _ _ _ _ _ _ q hi hx
theorem Gd.times(h:Gd text A):∀n,Gd text (yO A n)
 | 0=>Gd.id
 | n+1=>Gd.seq (Gd.times h n) h
theorem Gd.up(h:Gd text A):∀n {B:Rl},Gd text B->Gd text (mUp A n B)
 | 0,_,hB=>hB
 | n+1,_,hB=>Gd.up h n (Gd.or (Gd.seq h hB) Gd.id)
theorem Gd.turns{d:Nat}(h:Gd text A):Gd text (qf A d):=fun _ _ _ _ _ _ q hi hx=>by
 induction q with
 | stop=>exact⟨QD _,hi,hx,fun _ _ h=>h⟩
 | turn a _ _ ih=>
  obtain⟨p1,p2,p3,p4⟩:=h _ _ _ _ _ _ a hi hx;obtain⟨q1,q2,q3,q4⟩:=ih p2 p3;exact⟨by omega,q2,q3,fun g hg hh=>q4 g hg (p4 g hg hh)⟩
theorem Gd.one(m:Nat->Bool)(d:Nat):Gd text (mOne text m d):=fun _ _ _ _ _ _ ⟨⟨hk,_⟩,h1,h2,h3⟩ hi hx=>by
 subst h1 h2 h3;exact⟨by omega,by omega,hx.mono (by omega),fun _ _ h=>h⟩
theorem Gd.He(k:Nat):Gd text (NJ text k):=fun _ _ _ _ _ _ ⟨_,h1,h2,h3⟩ hi hx=>by
 subst h1 h2 h3;exact⟨QD _,hi,hx,fun _ _ h=>h⟩
theorem Gd.group{g:Nat}(h:Gd text A)(hg0:1<=g):Gd text (DH g A):=fun i tk x j tk' x' ⟨x2,a1,a2⟩ hi hx=>by
 subst a2;obtain⟨p1,p2,p3,p4⟩:=h _ _ _ _ _ _ a1 hi hx.nu;refine⟨p1,p2,p3.nu,fun k hk hh=>?_⟩;by_cases e:k=g
 .subst e;have:=(p3 (2*k) (by omega)).2;simp[nu];omega
 .have:=p4 k hk (by unfold nu;rw[Qw (by omega),Qw (by omega)];exact hh);unfold nu;rw[Qw (by omega),Qw (by omega)];exact this
theorem Gd.row{d:Nat}:∀{l:List (Nat->Rl)},(∀m∈l,∀d,Gd text (m d))->Gd text (F0 l d)
 | [],_=>Gd.id
 | m::l,h=>Gd.seq (h m (by simp) d) (Gd.row fun k hk=>h k (by simp[hk]))
theorem Gd.any{d:Nat}{l:List (Nat->Rl)}(h:∀m∈l,∀d,Gd text (m d)):Gd text (PV l d):=fun _ _ _ _ _ _ ⟨m,hm,q⟩ hi hx=>h m hm d _ _ _ _ _ _ q hi hx
theorem AO{text:ByteArray}:∀{l:List Pn} {m:Nat->Rl},m∈rlL text l->∃x∈l,m=x.rl text
 | [],_,h=>by cases h
 | x::l,m,h=>by
  rcases List.mem_cons.1 (show m∈x.rl text::rlL text l from h) with e|e
  .exact⟨x,by simp,e⟩
  .obtain⟨y,hy,q⟩:=AO e;exact⟨y,by simp[hy],q⟩
theorem Pn.Ok.gd(text:ByteArray){x:Pn}(h:x.Ok):∀d,Gd text (x.rl text d):=by
 induction h with
 | one m=>exact fun d=>Gd.one m d
 | He h=>exact fun d=>Gd.He _
 | group h1 h2 _ ih=>exact fun d=>Gd.group (ih d) h1
 | @rep x a b hb _ ih=>
  intro d
  cases b with
  | none=>exact Gd.seq (Gd.times (ih d) a) (Gd.turns (ih (d+1)))
  | some m=>exact Gd.seq (Gd.times (ih d) a) (Gd.up (ih d) (m-a) Gd.id)
 | @row l _ ih=>
  intro d;refine Gd.row fun m hm=>?_;obtain⟨y,hy,rfl⟩:=AO hm;exact ih y hy
 | @brs l _ _ ih=>
  intro d;refine Gd.any fun m hm=>?_;obtain⟨y,hy,rfl⟩:=AO hm;exact ih y hy
end
structure LN(text:ByteArray)(fr:Nat)(b:Nat->Int):Prop where
 ends:∃a e:Nat,b 0=a/\b 1=e/\fr<=a/\a<=e/\e<=text.size
 notes:∀g,1<=g->-1<=b (2*g)/\b (2*g)<=b (2*g+1)/\b (2*g+1)<=text.size
section
variable {q:Ptn}{G:Nat}
theorem zO(h:xT G q.x):Cok q.cd q.n q.D q.bg:=by
 have hm:=h.ok.sm noB;obtain⟨wf1,wf2⟩:=hm.wf 1 0 0 (1+q.x.pi.len) q.x.pi.dd (by omega) (by omega) (by omega);have hin:∀a,a<q.x.pi.len->q.cd (a+1)∈(q.x.pi.em 1 0 0).1:=fun a ha=>by
  have hcl:(codeOf q.x.pi).length=1+q.x.pi.len:=by unfold codeOf;rw[QF,hm.lens];omega
  have:(q.x.pi.em 1 0 0).1[a]? = some (q.cd (a+1)):=by
   have:=KU (l:=codeOf q.x.pi) (a:=a+1) (by omega);simpa[codeOf,Ptn.cd] using this
  exact QM this
 have c0:q.cd 0=gO 6 0 0 0 0:=by simp[Ptn.cd,cdL,codeOf]
 refine⟨fun a ha=>?_,fun a ha h3=>?_,wf2⟩
 .match a,ha with
  | 0,_=>rw[c0];exact⟨by simp,by unfold Ptn.n;simp;omega,by unfold Ptn.n;simp;omega,by simp,by simp⟩
  | a+1,ha=>
   obtain⟨a1,a2,a3,a4,a5,_⟩:=wf1 _ (hin a (by unfold Ptn.n at ha;omega));exact⟨by omega,a2,a3,a4,a5⟩
 .match a,ha with
  | 0,_=>rw[c0] at h3;simp at h3
  | a+1,ha=>exact(wf1 _ (hin a (by unfold Ptn.n at ha;omega))).2.2.2.2.2 h3
theorem best_ok{text:ByteArray}{fr:Nat}{s:Mc}(h:xT G q.x)(hv:Vd q.cd text q.bg fr s)(hf:s.fd=true):LN text fr s.fc:=by
 have hc:=zO h;have hm:=h.ok.sm text;obtain⟨wf1,wf2⟩:=hm.wf 1 0 0 (1+q.x.pi.len) q.x.pi.dd (by omega) (by omega) (by omega);have hat:AtC q.cd 1 (q.x.pi.em 1 0 0).1:=fun k i hk=>by
  unfold Ptn.cd cdL codeOf;rw[show 1+k=k+1 by omega,List.getElem?_cons_succ,hk];rfl
 have gs:=hm.goes _ 1 0 0 hat;have c0:(q.cd 0).kind=6:=by simp[Ptn.cd,cdL,codeOf]
 have stuck:∀(k j tk e:Nat) (x:Nat->Int) (f:Thr),Pth q.cd text k j ⟨0,tk,x⟩ e f->e=j/\f=⟨0,tk,x⟩:=fun k j tk e x f h=>by
  cases h with
  | nil=>exact⟨rfl,rfl⟩
  | eps hu _=>
   unfold eps lR at hu;simp[c0] at hu
  | byte hb _=>rw[jh (by show(q.cd 0).kind≠0;omega)] at hb;cases hb
 obtain⟨e,t,w,k6,hb⟩:=hv hf;obtain⟨a,k,hfa,ha,pt⟩:=w.pth;obtain⟨k',j,tk',x',_,hM,p2⟩:=gs.sound pt k6;obtain⟨rfl,rfl⟩:=stuck _ _ _ _ _ _ p2;have hx:=(pth_ok hc pt ⟨wf2,QG _⟩).2;have hx':x' 0=(a:Int):=by simpa[nz] using hx
 have hn0:Nt (nz a) a:=fun s hs=>by
  unfold nz;rw[Qw (by omega)];exact⟨Int.le_refl _,by omega⟩
 obtain⟨g1,g2,g3,g4⟩:=h.ok.gd text 0 _ _ _ _ _ _ hM ha hn0;refine⟨⟨a,e,by rw[hb];simp[nu,hx'],by rw[hb];simp[nu],hfa,g1,g2⟩,fun g hg=>?_⟩;have e1:s.fc (2*g)=x' (2*g):=by rw[hb];unfold nu;rw[Qw (by omega)]
 have e2:s.fc (2*g+1)=x' (2*g+1):=by rw[hb];unfold nu;rw[Qw (by omega)]
 rw[e1,e2];have n1:=g3 (2*g) (by omega);have n2:=g3 (2*g+1) (by omega);have:=g4 g hg (by unfold nz;rw[Qw (by omega),Qw (by omega)];exact Int.le_refl _);exact⟨n1.1,this,by omega⟩
theorem pM{t:ByteArray}{fr:Nat}{s s':Mc}(h:Srch q t fr s s'):Ev q t fr s=s':=by
 have hx:∃s',Srch q t fr s s':=⟨s',h⟩;unfold Ev;rw[dif_pos hx];exact CY _ _ _ _ _ _ hx.choose_spec h
theorem rJ{t:ByteArray}{fr:Nat}{s s':Mc}(hq:xT G q.x)(hfr:fr<=t.size+1)(hl:s.left=[])(ha:s.ahead=[])(h:Srch q t fr s s'):(s'.left=[]/\s'.ahead=[])/\(s'.fd=true->LN t fr s'.fc/\uns s'.sn 0 ((t.size+1)*(q.n*(q.D+1)))<uns s.sn 0 ((t.size+1)*(q.n*(q.D+1)))):=by
 have hc:=zO hq;have v0:Vd q.cd t q.bg fr ({ s with fd:=false}:Mc):=fun hf=>by cases hf
 have hs:OkM q.n q.D ({ s with fd:=false}:Mc):=⟨fun u hu=>(by rw[show({ s with fd:=false}:Mc).ahead=s.ahead from rfl,ha] at hu;cases hu),fun u hu=>(by rw[show({ s with fd:=false}:Mc).left=s.left from rfl,hl] at hu;cases hu)⟩;refine⟨yx (fr:=fr) hc _ _ _ _ _ h (by omega) (QD _) (fun t ht=>by cases ht) hl ha v0,fun hf=>?_⟩;have hv:=rL (fr:=fr) hc _ _ _ _ _ h (by omega) (QD _) (fun t ht=>by cases ht) hl ha v0;have hle:=yw hc _ _ _ _ _ h (by omega) (fun t ht=>by cases ht) hs;refine⟨best_ok hq hv hf,?_⟩;rcases hle.1.2 hf with e|e
 .cases e
 .exact e
theorem Dk{t:ByteArray}(hq:xT G q.x):∀(k fr:Nat) (s:Mc),uns s.sn 0 ((t.size+1)*(q.n*(q.D+1)))<k->fr<=t.size+1->s.left=[]->s.ahead=[]->ItsG q.cd q.n q.D t q.bg (LW q t k fr s) fr s
 | 0,_,_,h,_,_,_=>by omega
 | k+1,fr,s,h,hfr,hl,ha=>by
  unfold LW;by_cases hf:(Ev q t fr s).fd=true
  .rw[QB hf];intro s' hr;have e:=pM (q:=q) (t:=t) (fr:=fr) (s:=s) hr;rw[e] at hf;obtain⟨⟨l1,l2⟩,l3⟩:=rJ hq hfr hl ha hr;obtain⟨b1,b2⟩:=l3 hf;obtain⟨a,z,_,hz,_,_,hzs⟩:=b1.ends;rw[e];refine⟨hf,rfl,z,hz,b2,by omega,?_⟩;rw[hz,Su];exact Dk hq k z s' (by omega) (by omega) l1 l2
  .rw[Qw hf];intro s' hr;rw[pM (q:=q) (t:=t) (fr:=fr) (s:=s) hr] at hf
   cases hh:s'.fd
   .rfl
   .exact absurd hh hf
theorem MS(hq:xT G q.x)(t:List UInt8):ItsG q.cd q.n q.D (ba t) q.bg (q.LV t) 0 mc0:=
 Dk hq _ 0 mc0 (by have:=CL mc0.sn 0 (((ba t).size+1)*(q.n*(q.D+1)));omega) (by omega) rfl rfl
def Plcd(t:ByteArray):Nat->List (Nat->Int)->Prop
 | _,[]=>True
 | fr,b::bs=>LN t fr b/\Plcd t (b 1).toNat bs
theorem IZ{t:ByteArray}(hq:xT G q.x):∀(k fr:Nat) (s:Mc),(∃s',Srch q t fr s s')\/True->fr<=t.size+1->s.left=[]->s.ahead=[]->Plcd t fr (LW q t k fr s)
 | 0,_,_,_,_,_,_=>trivial
 | k+1,fr,s,_,hfr,hl,ha=>by
  unfold LW;by_cases hf:(Ev q t fr s).fd=true
  .rw[QB hf];by_cases hx:∃s',Srch q t fr s s'
   .obtain⟨s',hr⟩:=hx;have e:=pM (q:=q) (t:=t) (fr:=fr) (s:=s) hr;rw[e] at hf ⊢;obtain⟨⟨l1,l2⟩,l3⟩:=rJ hq hfr hl ha hr;obtain⟨b1,b2⟩:=l3 hf;obtain⟨a,z,_,hz,_,_,hzs⟩:=b1.ends;refine⟨b1,IZ hq k _ s' (.inr trivial) (by rw[hz,Su];omega) l1 l2⟩
   .unfold Ev at hf;rw[dif_neg hx] at hf
    cases hf
  .rw[Qw hf]
   trivial
theorem plcs_ok(hq:xT G q.x)(t:List UInt8):Plcd (ba t) 0 (q.LV t):=IZ hq _ 0 mc0 (.inr trivial) (by omega) rfl rfl
end
structure HoOk(H:List (Nat×Nat))(n G:Nat):Prop where
 le:∀h∈H,h.1<=n/\h.2<=G
 pw:H.Pairwise (fun a b=>a.1<=b.1)
structure ig(nn rr:Nat)(c:aH):Prop where
 adr:c.fw.length<=2
 pts:∀p,eE.pat p∈c.fw->xT p.G p.x
 nums:∀n,eE.num n∈c.fw->n<=1000000
 rng:c.fw.length=2->c.range<rr
 wh:iK.contains c.what=true
 fl:(c.what=119\/c.name.size≠0)->c.file<nn
 st:c.status<=255
 nb:c.number<=1000000
 pt:∀p,c.pat=some p->xT p.G p.x/\HoOk c.dr c.new.plain.length p.G
 sp:c.what=115->c.pat≠none
 tx:c.text.plain.length<=2000
 nw:c.new.plain.length<=2000
 nh:c.dr.length<=2000
 yl:c.jM.plain.length=c.yto.plain.length
 yy:c.jM.plain.length<=2000
theorem ig.mono{nn rr nn' rr':Nat}{c:aH}(h:ig nn rr c)(h1:nn<=nn')(h2:rr<=rr'):ig nn' rr' c:=
 ⟨h.adr,h.pts,h.nums,fun q=>by have:=h.rng q;omega,h.wh,fun q=>by have:=h.fl q;omega,h.st,h.nb,h.pt,h.sp,h.tx,h.nw,h.nh,h.yl,h.yy⟩
theorem ig.goal{nn rr:Nat}{c:aH}(h:ig nn rr c)(g:Nat):ig nn rr { c with goal:=g}:=
 ⟨h.adr,h.pts,h.nums,h.rng,h.wh,h.fl,h.st,h.nb,h.pt,h.sp,h.tx,h.nw,h.nh,h.yl,h.yy⟩
section
variable {s:ByteArray}
theorem fF:∀{n k:Nat} {acc:List UInt8} {e:Nat} {l:List UInt8},gG s n k acc=.ok (e,l)->k<e/\e<=s.size/\l.length+k+1<=acc.length+e:=by
 intro n
 induction n<;>grind [gG,-> dC]
theorem rF{m:Nat}:∀{n k:Nat} {acc:List UInt8} {e:Nat} {l:List UInt8},toE s m n k acc=.ok (e,l)->acc.length<=m->k<e/\e<=s.size/\l.length=m:=by
 intro n
 induction n<;>grind [toE,-> dC]
theorem lv{G k l g:Nat}(h:nI s G k=some (l,g)):k<l/\l<=s.size/\g<=G:=by
 grind [nI,-> aC]
theorem ir{G:Nat}:∀{n k:Nat} {acc:List UInt8} {hs:List (Nat×Nat)} {e:Nat} {l:List UInt8} {H:List (Nat×Nat)},oe s G n k acc hs=.ok (e,l,H)->HoOk hs acc.length G->k<e/\e<=s.size/\l.length+H.length+k+1<=acc.length+hs.length+e/\HoOk H l.length G
 | 0,_,_,_,_,_,_,h,_=>by cases h
 | n+1,k,acc,hs,e,l,H,h,ho=>by
  unfold oe at h;split at h
  .rename_i hk;split at h
   .injection h with h;injection h with h1 h2;injection h2 with h2 h3;subst h1 h2 h3;exact⟨by omega,by omega,by omega,ho⟩
   .split at h
    .rename_i l1 g hh;have h1:=lv hh
     have ih:=ir h (by
      refine⟨fun x hx=>?_,?_⟩
      .rcases List.mem_append.1 hx with q|q
       .exact ho.le x q
       .simp at q;subst q;exact⟨QD _,h1.2.2⟩
      .rw[List.pairwise_append];refine⟨ho.pw,by simp,fun a ha b hb=>?_⟩;simp at hb;subst hb
       exact(ho.le a ha).1)
     simp at ih;exact⟨by omega,by omega,by omega,ih.2.2.2⟩
    .split at h
     .cases h
     .rename_i l1 c hp;have h1:=dC hp
      have ih:=ir h (by
       refine⟨fun x hx=>?_,ho.pw⟩;have:=ho.le x hx;simp
       omega)
      simp at ih;exact⟨by omega,by omega,by omega,ih.2.2.2⟩
  .cases h
theorem gI:∀{n k:Nat} {acc:List UInt8} {e:Nat} {l:List UInt8},k<=s.size->fP s n k acc=.ok (e,l)->k<=e/\e<=s.size/\l.length+k<=acc.length+e:=by
 intro n
 induction n<;>grind [fP,-> dC]
theorem Di:∀{n k e:Nat},ptE s n k=.ok e->k<e/\e<=s.size:=by
 intro n
 induction n<;>grind [ptE]
theorem gq{k e:Nat}{p:Ptn}(hsz:s.size<=2000)(h:oL s k=.ok (e,p)):k+1<e/\e<=s.size/\xT p.G p.x/\p.txt=s.extract (k+1) (e-1)/\saw s k 47=true:=by
 unfold oL at h;split at h
 .rename_i h47;have:=aC h47;split at h
  .cases h
  .rename_i e1 he;have h1:=Di he;have hg:=AW (src:=s.extract 0 (e1-1)) (fr:=k+1) (by simp;omega) (by simp;omega);split at h
   .cases h
   .rename_i G x hr;rw[hr] at hg;injection h with h;injection h with h2 h3;subst h2 h3;exact⟨h1.1,h1.2,hg.1,rfl,h47⟩
 .cases h
theorem gu{lo hi k e x:Nat}(hk:k<=s.size)(h:pZ s lo hi k=.ok (e,x)):k<=e/\e<=s.size/\x<=hi/\(isD s k=true->k<e/\lo<=x):=by
 have:=Bc hk (QG hi) h;exact⟨this.1,this.2.1,this.2.2.1,this.2.2.2 (by omega)⟩
theorem dB{k e:Nat}{x:ByteArray}(hk:k<=s.size)(h:dT s k=.ok (e,x)):blk s k<e/\k<e/\e<=s.size/\e<=blk s k+8/\x=s.extract (blk s k) e/\blk s k+x.size=e:=by
 have hx:=@ByteArray.size_extract
 grind [dT,-> Pq,dm,lF]
theorem adrE_le{k e:Nat}{a:eE}(hsz:s.size<=2000)(hk:k<=s.size)(h:nV s k=.ok (e,a)):k<e/\e<=s.size/\(∀p,a=.pat p->xT p.G p.x)/\∀n,a=.num n->n<=1000000:=by
 grind [nV,-> gu,-> gq,-> aC]
theorem xF{k e:Nat}{L:List eE}(hsz:s.size<=2000)(hk:k<=s.size)(h:gH s k=.ok (e,L)):k<=e/\e<=s.size/\L.length<=2/\(∀p,eE.pat p∈L->xT p.G p.x)/\∀n,eE.num n∈L->n<=1000000:=by
 grind [gH,-> adrE_le,-> aC]
structure Qn(s:ByteArray)(k e:Nat)(r r2:RdS)(c c2:aH):Prop where
 ke:k<=e
 es:e<=s.size
 req:r2={ r with names:=r2.names}
 n1:r.names.length<=r2.names.length
 n2:r2.names.length<=r.names.length+1
 ceq:c2={ c with name:=c2.name,file:=c2.file,all:=c2.all,number:=c2.number,print:=c2.print}
 nb:c.number<=1000000->c2.number<=1000000
 fl:(c2.name=c.name/\c2.file=c.file)\/c2.file<r2.names.length
theorem iz{k e:Nat}{r r2:RdS}{c c2:aH}(hk:k<=s.size)(h:gQ s k r c=.ok (e,r2,c2)):Qn s k e r r2 c c2/\c2.file<r2.names.length/\k<e:=by
 unfold gQ at h;split at h
 .cases h
 .rename_i e1 x hw;have h1:=dB hk hw;split at h
  .rename_i i hi;injection h with h;injection h with h2 h3;injection h3 with h3 h4;subst h2 h3 h4;have hlt:i<r.names.length:=by
    obtain⟨q,_⟩:=List.findIdx?_eq_some_iff_getElem.1 hi;exact q
   exact⟨⟨by omega,h1.2.2.1,rfl,QD _,by omega,rfl,fun q=>q,.inr hlt⟩,hlt,h1.2.1⟩
  .injection h with h;injection h with h2 h3;injection h3 with h3 h4;subst h2 h3 h4;exact⟨⟨by omega,h1.2.2.1,rfl,by simp,by simp,rfl,fun q=>q,.inr (by simp)⟩,by simp,h1.2.1⟩
theorem eY:∀{n k e:Nat} {r r2:RdS} {c c2:aH},k<=s.size->aP s n k r c=.ok (e,r2,c2)->Qn s k e r r2 c c2
 | 0,_,_,_,_,_,_,_,h=>by cases h
 | n+1,k,e,r,r2,c,c2,hk,h=>by
  unfold aP at h;split at h
  .rename_i hc;have:=aC hc.2;have ih:=eY (by omega) h;exact⟨by have:=ih.ke;omega,ih.es,ih.req,ih.n1,ih.n2,by rw[ih.ceq],ih.nb,ih.fl⟩
  .split at h
   .rename_i hc;have:=aC hc.2;have ih:=eY (by omega) h;exact⟨by have:=ih.ke;omega,ih.es,ih.req,ih.n1,ih.n2,by rw[ih.ceq],ih.nb,ih.fl⟩
   .split at h
    .split at h
     .cases h
     .rename_i e1 v hn;have h1:=gu hk hn;have ih:=eY h1.2.1 h;exact⟨by have:=ih.ke;omega,ih.es,ih.req,ih.n1,ih.n2,by rw[ih.ceq],fun _=>ih.nb h1.2.2.1,ih.fl⟩
    .split at h
     .rename_i h119;have:=aC h119;have ih:=(iz (by omega) h).1;exact⟨by have:=ih.ke;omega,ih.es,ih.req,ih.n1,ih.n2,ih.ceq,ih.nb,ih.fl⟩
     .injection h with h;injection h with h2 h3;injection h3 with h3 h4;subst h2 h3 h4;exact⟨QD _,hk,rfl,QD _,by omega,rfl,fun q=>q,.inl ⟨rfl,rfl⟩⟩
structure OpOkS(s:ByteArray)(k e:Nat)(r r2:RdS)(c c2:aH):Prop where
 ke:k<=e
 es:e<=s.size
 cl:r2.aD.length=r.aD.length
 rg:r2.ranges=r.ranges
 n1:r.names.length<=r2.names.length
 n2:r2.names.length<=r.names.length+1
 b8:r.blocks.length<=8->r2.blocks.length<=8
 bl:(∀i∈r.blocks,i<r.aD.length)->∀i∈r2.blocks,i<=r.aD.length
 wl:r2.wanted.length<=r.wanted.length+1
 wi:(∀p∈r.wanted,p.1<r.aD.length)->∀p∈r2.wanted,p.1<=r.aD.length
 li:(∀p∈r.labels,p.2<r.aD.length)->∀p∈r2.labels,p.2<=r.aD.length
 cs:∀d∈r2.aD,∃d0∈r.aD,d=d0\/d={ d0 with goal:=r.aD.length}
 ca:c2.fw=c.fw
 cr:c2.range=c.range
 cn:c2.neg=c.neg
 cw:c2.what=c.what
 cg:c2.goal=c.goal
 ok:(c.fw.length<=2)->(∀p,eE.pat p∈c.fw->xT p.G p.x)->(∀n,eE.num n∈c.fw->n<=1000000)->(c.fw.length=2->c.range<r.ranges)->iK.contains c.what=true->ig r2.names.length r.ranges c2
theorem uR{α:Type}{l:List α}{i:Nat}{f:α->α}{d:α}(h:d∈l.modify i f):d∈l\/∃d0∈l,d=f d0:=by
 obtain⟨j,hj,hd⟩:=List.mem_iff_getElem.1 h;rw[List.getElem_modify] at hd
 grind
theorem jZ{k e:Nat}{r r2:RdS}{L:List eE}{rn x:Nat}{nt:Bool}{c2:aH}(hsz:s.size<=2000)(hk:k<=s.size)(h:aG s k r (dH L rn nt x)=.ok (e,r2,c2)):OpOkS s k e r r2 (dH L rn nt x) c2:=by
 have hn:∀G,HoOk [] ([]:List UInt8).length G:=fun G=>⟨(fun x hx=>by cases hx),.nil⟩
 have hd:∀i,i∈r.blocks.dropLast->i∈r.blocks:=fun i h=>List.dropLast_subset _ h;have z:noB.size=0:=rfl;have ca:c2.fw=L:=by grind [aG,dH,dm,lF,-> dB,-> gI,-> gq,-> ir,-> eY,-> fF,-> rF,-> gu,-> iz,Qn]
 have cr:c2.range=rn:=by grind [aG,dH,dm,lF,-> dB,-> gI,-> gq,-> ir,-> eY,-> fF,-> rF,-> gu,-> iz,Qn]
 constructor
 case cs=>grind [aG,dH,dm,lF,-> dB,-> gI,-> gq,-> ir,-> eY,-> fF,-> rF,-> gu,-> iz,Qn,-> uR]
 case ok=>
  intro a1 a2 a3 a4 a5;constructor
  case adr=>rw[ca];exact a1
  case rng=>rw[ca,cr];exact a4
  all_goals grind (splits:=20) [aG,dH,dm,lF,-> dB,-> gI,-> gq,-> ir,-> eY,-> fF,-> rF,-> gu,-> iz,Qn]
 all_goals grind [aG,dH,dm,lF,-> dB,-> gI,-> gq,-> ir,-> eY,-> fF,-> rF,-> gu,-> iz,Qn]
structure tQ(r:RdS)(k:Nat):Prop where
 cl:r.aD.length<=k
 nl:r.names.length<=k
 rl:r.ranges<=k
 b8:r.blocks.length<=8
 bl:∀i∈r.blocks,i<r.aD.length
 wl:r.wanted.length<=k
 wi:∀p∈r.wanted,p.1<r.aD.length
 li:∀p∈r.labels,p.2<r.aD.length
 gl:∀c∈r.aD,c.goal<=r.aD.length
 ok:∀c∈r.aD,ig r.names.length r.ranges c
theorem tQ.mono{r:RdS}{k l:Nat}(h:tQ r k)(hl:k<=l):tQ r l:=
 ⟨QC h.cl hl,QC h.nl hl,QC h.rl hl,h.b8,h.bl,QC h.wl hl,h.wi,h.li,h.gl,h.ok⟩
theorem iQ:tQ rd0 0:=⟨QD _,QD _,QD _,QG _,fun _ h=>(by cases h),QD _,fun _ h=>(by cases h),fun _ h=>(by cases h),fun _ h=>(by cases h),fun _ h=>(by cases h)⟩
theorem qG{k e:Nat}{r r2:RdS}(hsz:s.size<=2000)(hk:k<=s.size)(hr:tQ r k)(h:tI s k r=.ok (e,r2)):tQ r2 e/\k<e/\e<=s.size:=by
 unfold tI at h;split at h
 .cases h
 .rename_i k1 L ha;have ha:=xF hsz hk ha;have hb1:=lF s k1;have hb2:=dm ha.2.1;obtain⟨k3,hk3⟩:∃k3,k3=if saw s (blk s k1) 33=true then blk s (blk s k1+1) else blk s k1:=⟨_,rfl⟩;obtain⟨r1,hr1⟩:∃r1,r1=if L.length=2 then { r with ranges:=r.ranges+1} else r:=⟨_,rfl⟩;dsimp only at h;rw[<-hk3,<-hr1] at h;have hk13:k1<=k3:=by
   rw[hk3];split
   .have:=lF s (blk s k1+1);omega
   .omega
  split at h
  .rename_i hlt;split at h
   .cases h
   .rename_i hwh;split at h
    .cases h
    .split at h
     .cases h
     .rename_i e1 rr c ho;have o:=jZ hsz (by omega) ho;have hwh:iK.contains (s[k3]'hlt).toNat=true:=by simpa using hwh
      have e1':r1.aD=r.aD/\r1.names=r.names/\r1.blocks=r.blocks/\r1.wanted=r.wanted/\r1.labels=r.labels/\r.ranges<=r1.ranges/\r1.ranges<=r.ranges+1/\(L.length=2->r.ranges<r1.ranges):=by
       rw[hr1];split
       .exact⟨rfl,rfl,rfl,rfl,rfl,by simp,by simp,fun _=>by simp⟩
       .exact⟨rfl,rfl,rfl,rfl,rfl,by simp,by simp,fun q=>by omega⟩
      obtain⟨q1,q2,q3,q4,q5,q6,q7,q8⟩:=e1'
      have ok2:ig rr.names.length r1.ranges c:=o.ok ha.2.2.1 ha.2.2.2.1 ha.2.2.2.2 (fun q=>by
       show(if L.length=2 then r.ranges else 0)<_;rw[QB (show L.length=2 from q)]
       exact q8 q) hwh
      have ke:=o.ke;have es:=o.es;have fin:∀e',e1<=e'->tQ { rr with aD:=rr.aD++[c]} e':=by
       intro e' he';have hg:=fun(d:aH) hd=>((hr.ok d hd).mono (nn':=rr.names.length) (rr':=rr.ranges) (by rw[<-q2];exact o.n1) (by rw[o.rg];exact q6))
       have hg2:=fun(d:aH) hd=>(hg d hd).goal r1.aD.length;constructor<;>grind [tQ,OpOkS,dH]
      grind [lF,dm]
  .cases h
theorem xo:∀(n k:Nat),k<=Gx s n k/\(k<=s.size->Gx s n k<=s.size)
 | 0,k=>⟨QD _,fun h=>h⟩
 | n+1,k=>by
  unfold Gx;split
  .have:=xo n (k+1);exact⟨by omega,fun _=>this.2 (by omega)⟩
  .exact⟨QD _,fun h=>h⟩
theorem jG:∀(n k:Nat),k<=oU s n k/\(k<=s.size->oU s n k<=s.size):=by
 intro n
 induction n<;>grind [oU,xo,-> aC,isB]
theorem D6(hsz:s.size<=2000):∀{n k:Nat} {r r2:RdS},k<=s.size->tQ r k->eR s n k r=.ok r2->tQ r2 s.size
 | 0,_,_,_,_,_,h=>by cases h
 | n+1,k,r,r2,hk,hr,h=>by
  unfold eR at h;have hb:=jG (s:=s) (s.size+1) k;split at h
  .split at h
   .cases h
   .rename_i e r1 hc;have:=qG hsz (hb.2 hk) (hr.mono hb.1) hc;exact D6 hsz this.2.2 this.1 h
  .injection h with h;subst h;exact hr.mono hk
theorem qv{k:Nat}:∀{l:List (Nat×Nat)} {r r2:RdS},tQ r k->dE l r=.ok r2->tQ r2 k/\r2={ r with aD:=r2.aD}/\r2.aD.length=r.aD.length
 | [],_,_,hr,h=>by
  injection h with h;subst h;exact⟨hr,rfl,rfl⟩
 | (i,pl)::l,r,r2,hr,h=>by
  unfold dE at h;have key:∀(c:aH) (g:Nat),r.aD[i]? = some c->g<=r.aD.length->tQ { r with aD:=r.aD.set i { c with goal:=g}} k:=by
   intro c g hc hg;have hm:c∈r.aD:=QM hc;have hlen:(r.aD.set i { c with goal:=g}).length=r.aD.length:=Rg;refine⟨by rw[hlen];exact hr.cl,hr.nl,hr.rl,hr.b8,fun j hj=>by rw[hlen];exact hr.bl j hj,hr.wl,fun j hj=>by rw[hlen];exact hr.wi j hj,fun j hj=>by rw[hlen];exact hr.li j hj,fun d hd=>?_,fun d hd=>?_⟩
   .rw[hlen];rcases Rm hd with q|q
    .exact hr.gl d q
    .subst q;exact hg
   .rcases Rm hd with q|q
    .exact hr.ok d q
    .subst q;exact(hr.ok c hm).goal g
  split at h
  .cases h
  .rename_i c hc;split at h
   .obtain⟨h1,h2,h3⟩:=qv (key c _ hc (QD _)) h;refine⟨h1,?_,by rw[h3];simp⟩;rw[h2]
   .split at h
    .cases h
    .rename_i y n hf;have:=hr.li _ (List.mem_of_find?_eq_some hf);obtain⟨h1,h2,h3⟩:=qv (key c n hc (by omega)) h;refine⟨h1,?_,by rw[h3];simp⟩;rw[h2]
structure Ak(S:fN):Prop where
 cl:S.aD.length<=2000
 nl:S.names.length<=2000
 rl:S.ranges<=2000
 gl:∀c∈S.aD,c.goal<=S.aD.length
 ok:∀c∈S.aD,ig S.names.length S.ranges c
theorem Iu{S:fN}(h:lQ s=.ok S):Ak S:=by
 unfold lQ at h;split at h
 .cases h
 .split at h
  .cases h
  .rename_i r hc;have hr:=D6 (by omega) (QG _) iQ hc;split at h
   .cases h
   .split at h
    .cases h
    .rename_i r2 hg;have h2:=(qv hr hg).1;injection h with h;subst h;exact⟨by have:=h2.cl;show r2.aD.length<=_;omega,by have:=h2.nl;show r2.names.length<=_;omega,by have:=h2.rl;show r2.ranges<=_;omega,h2.gl,h2.ok⟩
end
