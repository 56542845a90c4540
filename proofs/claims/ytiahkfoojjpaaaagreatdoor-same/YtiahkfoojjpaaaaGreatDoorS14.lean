import Derived.Test.YtiahkfoojjpaaaaGreatDoorS13
set_option maxRecDepth 100000
set_option maxHeartbeats 16000000
set_option linter.all false
namespace Go.Proofs.YtiahkfoojjpaaaaGreatDoor
open Go.RowKit
inductive Pth(cd:Nat->In)(text:ByteArray):Nat->Nat->Thr->Nat->Thr->Prop
 | nil {i:Nat} {t:Thr}:Pth cd text 0 i t i t
 | eps {k i e:Nat} {t u f:Thr} (hu:u∈eps cd text i t) (h:Pth cd text k i u e f):Pth cd text (k+1) i t e f
 | byte {k i e:Nat} {t f:Thr} (hb:fJ cd text i t=true) (h:Pth cd text k (i+1) (behind cd t) e f):Pth cd text (k+1) i t e f
section
variable {cd:Nat->In}{text:ByteArray}{bg fr k i e pc tk:Nat}{t u f:Thr}{x:Nat->Int}
theorem Pth.trans{l j:Nat}(h:Pth cd text k i t j u)(h2:Pth cd text l j u e f):∃m,Pth cd text m i t e f:=by
 induction h with
 | nil=>exact⟨_,h2⟩
 | eps hu _ ih=>obtain⟨m,q⟩:=ih h2;exact⟨_,.eps hu q⟩
 | byte hb _ ih=>obtain⟨m,q⟩:=ih h2;exact⟨_,.byte hb q⟩
theorem Way.pth(h:Way cd text bg fr e f):∃a k,fr<=a/\a<=text.size/\Pth cd text k a ⟨bg,0,nz a⟩ e f:=by
 induction h with
 | start a h h2=>exact⟨a,0,h,h2,.nil⟩
 | eps _ hu ih=>
  obtain⟨a,k,h1,h2,p⟩:=ih;obtain⟨m,q⟩:=p.trans (.eps hu .nil);exact⟨a,m,h1,h2,q⟩
 | byte _ hb ih=>
  obtain⟨a,k,h1,h2,p⟩:=ih;obtain⟨m,q⟩:=p.trans (.byte hb .nil);exact⟨a,m,h1,h2,q⟩
theorem gV(h:Pth cd text k i t e f)(h6:(cd f.pc).kind=6)(hk:(cd t.pc).kind≠6):∃k',k=k'+1/\((∃u∈eps cd text i t,Pth cd text k' i u e f)\/(fJ cd text i t=true/\Pth cd text k' (i+1) (behind cd t) e f)):=by
 cases h with
 | nil=>exact absurd h6 hk
 | eps hu h=>exact⟨_,rfl,.inl ⟨_,hu,h⟩⟩
 | byte hb h=>exact⟨_,rfl,.inr ⟨hb,h⟩⟩
theorem jh(h:(cd t.pc).kind≠0):fJ cd text i t=false:=by unfold fJ;simp[h]
theorem Gl{nx ot sl dp:Nat}{m:Nat->Bool}(hc:cd pc=⟨0,nx,ot,sl,dp,m⟩)(h:Pth cd text k i ⟨pc,tk,x⟩ e f)(h6:(cd f.pc).kind=6):∃k',k=k'+1/\(∃hl:i<text.size,m (text[i]'hl).toNat=true)/\Pth cd text k' (i+1) ⟨nx,dp,x⟩ e f:=by
 obtain⟨k',e1,⟨u,hu,_⟩|⟨hb,p⟩⟩:=gV h h6 (by show(cd pc).kind≠6;rw[hc];simp)
 .unfold Go.Proofs.YtiahkfoojjpaaaaGreatDoor.eps lR at hu;simp[hc] at hu
 .refine⟨k',e1,?_,?_⟩
  .unfold fJ at hb;simp[hc] at hb;exact hb
  .unfold behind at p;simpa[hc] using p
theorem BI{nx ot sl dp:Nat}{m:Nat->Bool}(hc:cd pc=⟨1,nx,ot,sl,dp,m⟩)(h:Pth cd text k i ⟨pc,tk,x⟩ e f)(h6:(cd f.pc).kind=6):∃k',k=k'+1/\i=0/\Pth cd text k' i ⟨nx,tk,x⟩ e f:=by
 obtain⟨k',e1,⟨u,hu,p⟩|⟨hb,_⟩⟩:=gV h h6 (by show(cd pc).kind≠6;rw[hc];simp)
 .unfold Go.Proofs.YtiahkfoojjpaaaaGreatDoor.eps lR fM at hu;by_cases h0:i=0
  .simp[hc,h0] at hu;subst hu;exact⟨k',e1,h0,p⟩
  .simp[hc,h0] at hu
 .rw[jh (by show(cd pc).kind≠0;rw[hc];simp)] at hb;cases hb
theorem Ke{nx ot sl dp:Nat}{m:Nat->Bool}(hc:cd pc=⟨2,nx,ot,sl,dp,m⟩)(h:Pth cd text k i ⟨pc,tk,x⟩ e f)(h6:(cd f.pc).kind=6):∃k',k=k'+1/\i=text.size/\Pth cd text k' i ⟨nx,tk,x⟩ e f:=by
 obtain⟨k',e1,⟨u,hu,p⟩|⟨hb,_⟩⟩:=gV h h6 (by show(cd pc).kind≠6;rw[hc];simp)
 .unfold Go.Proofs.YtiahkfoojjpaaaaGreatDoor.eps lR fM at hu;by_cases h0:i=text.size
  .simp[hc,h0] at hu;subst hu;exact⟨k',e1,h0,p⟩
  .simp[hc,h0] at hu
 .rw[jh (by show(cd pc).kind≠0;rw[hc];simp)] at hb;cases hb
theorem tr{nx ot sl dp:Nat}{m:Nat->Bool}(hc:cd pc=⟨3,nx,ot,sl,dp,m⟩)(h:Pth cd text k i ⟨pc,tk,x⟩ e f)(h6:(cd f.pc).kind=6):∃k',k=k'+1/\Pth cd text k' i ⟨nx,tk,nu x sl i⟩ e f:=by
 obtain⟨k',e1,⟨u,hu,p⟩|⟨hb,_⟩⟩:=gV h h6 (by show(cd pc).kind≠6;rw[hc];simp)
 .unfold Go.Proofs.YtiahkfoojjpaaaaGreatDoor.eps lR fM at hu;simp[hc] at hu;subst hu;exact⟨k',e1,p⟩
 .rw[jh (by show(cd pc).kind≠0;rw[hc];simp)] at hb;cases hb
theorem jE{nx ot sl dp:Nat}{m:Nat->Bool}(hc:cd pc=⟨4,nx,ot,sl,dp,m⟩)(h:Pth cd text k i ⟨pc,tk,x⟩ e f)(h6:(cd f.pc).kind=6):∃k',k=k'+1/\(Pth cd text k' i ⟨nx,tk,x⟩ e f\/Pth cd text k' i ⟨ot,tk,x⟩ e f):=by
 obtain⟨k',e1,⟨u,hu,p⟩|⟨hb,_⟩⟩:=gV h h6 (by show(cd pc).kind≠6;rw[hc];simp)
 .unfold Go.Proofs.YtiahkfoojjpaaaaGreatDoor.eps lR fM at hu;simp[hc] at hu;rcases hu with rfl|rfl
  .exact⟨k',e1,.inl p⟩
  .exact⟨k',e1,.inr p⟩
 .rw[jh (by show(cd pc).kind≠0;rw[hc];simp)] at hb;cases hb
theorem Gk{nx ot sl dp:Nat}{m:Nat->Bool}(hc:cd pc=⟨5,nx,ot,sl,dp,m⟩)(h:Pth cd text k i ⟨pc,tk,x⟩ e f)(h6:(cd f.pc).kind=6):∃k',k=k'+1/\dp<tk/\Pth cd text k' i ⟨nx,dp,x⟩ e f:=by
 obtain⟨k',e1,⟨u,hu,p⟩|⟨hb,_⟩⟩:=gV h h6 (by show(cd pc).kind≠6;rw[hc];simp)
 .unfold Go.Proofs.YtiahkfoojjpaaaaGreatDoor.eps lR fM at hu;by_cases h0:tk<=dp
  .simp[hc,h0] at hu
  .simp[hc,h0] at hu;subst hu;exact⟨k',e1,by omega,p⟩
 .rw[jh (by show(cd pc).kind≠0;rw[hc];simp)] at hb;cases hb
theorem Ib{nx ot sl dp:Nat}{m:Nat->Bool}(hc:cd pc=⟨0,nx,ot,sl,dp,m⟩)(hl:i<text.size)(hm:m (text[i]'hl).toNat=true):Pth cd text 1 i ⟨pc,tk,x⟩ (i+1) ⟨nx,dp,x⟩:=by
 have:=Pth.byte (cd:=cd) (text:=text) (k:=0) (i:=i) (t:=⟨pc,tk,x⟩) (by unfold fJ;simp[hc,hl,hm]) .nil;unfold behind at this;simpa[hc] using this
theorem fW{nx tk':Nat}{x':Nat->Int}(h:(⟨nx,tk',x'⟩:Thr)∈eps cd text i ⟨pc,tk,x⟩):Pth cd text 1 i ⟨pc,tk,x⟩ i ⟨nx,tk',x'⟩:=.eps h .nil
end
abbrev Rl:=Nat->Nat->(Nat->Int)->Nat->Nat->(Nat->Int)->Prop
def mId:Rl:=fun i tk x j tk' x'=>j=i/\tk'=tk/\x'=x
def te(A B:Rl):Rl:=fun i tk x j tk' x'=>∃i1 t1 x1,A i tk x i1 t1 x1/\B i1 t1 x1 j tk' x'
def mOr(A B:Rl):Rl:=fun i tk x j tk' x'=>A i tk x j tk' x'\/B i tk x j tk' x'
def mOne(text:ByteArray)(m:Nat->Bool)(d:Nat):Rl:=fun i _ x j tk' x'=>(∃h:i<text.size,m (text[i]'h).toNat=true)/\j=i+1/\tk'=d/\x'=x
def NJ(text:ByteArray)(k:Nat):Rl:=fun i tk x j tk' x'=>((k=1/\i=0)\/(k=2/\i=text.size))/\j=i/\tk'=tk/\x'=x
def DH(g:Nat)(A:Rl):Rl:=fun i tk x j tk' x'=>∃x2,A i tk (nu x (2*g) i) j tk' x2/\x'=nu x2 (2*g+1) j
def PU:List (Nat->Rl)->Nat->Rl
 | [],_=>mId
 | m::ms,d=>te (PU ms d) (m d)
def mBr:List (Nat->Rl)->Rl->Nat->Rl
 | [],B,_=>B
 | m::ms,B,d=>mBr ms (mOr (m d) B) d
def yO(A:Rl):Nat->Rl
 | 0=>mId
 | k+1=>te (yO A k) A
def mUp(A:Rl):Nat->Rl->Rl
 | 0,B=>B
 | k+1,B=>mUp A k (mOr (te A B) mId)
inductive qf(A:Rl)(d:Nat):Rl
 | stop {i tk:Nat} {x:Nat->Int}:qf A d i tk x i tk x
 | turn {i tk i1 t1 j tk':Nat} {x x1 x':Nat->Int} (h:A i tk x i1 t1 x1) (ht:d<t1) (r:qf A d i1 d x1 j tk' x'):qf A d i tk x j tk' x'
def AtC(cd:Nat->In)(n:Nat)(l:List In):Prop:=∀k i,l[k]? = some i->cd (n+k)=i
theorem AtC.left{cd:Nat->In}{n:Nat}{a b:List In}(h:AtC cd n (a++b)):AtC cd n a:=fun k i hk=>h k i (by
 rw[Q5 (List.getElem?_eq_some_iff.1 hk).1];exact hk)
theorem AtC.right{cd:Nat->In}{n l:Nat}{a b:List In}(h:AtC cd n (a++b))(hl:a.length=l):AtC cd (n+l) b:=fun k i hk=>by
 have:=h (l+k) i (by rw[QU (by omega),hl,Sw];exact hk)
 rwa [<-Nat.add_assoc] at this
theorem AtC.head{cd:Nat->In}{n:Nat}{a:In}{b:List In}(h:AtC cd n (a::b)):cd n=a:=h 0 a rfl
theorem AtC.tail{cd:Nat->In}{n:Nat}{a:In}{b:List In}(h:AtC cd n (a::b)):AtC cd (n+1) b:=fun k i hk=>by
 have:=h (k+1) i (by simpa using hk)
 rwa [show n+(k+1)=n+1+k by omega] at this
structure gj(cd:Nat->In)(text:ByteArray)(bg next:Nat)(A:Rl):Prop where
 comp:∀{i tk x j tk' x'},A i tk x j tk' x'->∃k,Pth cd text k i ⟨bg,tk,x⟩ j ⟨next,tk',x'⟩
 sound:∀{k i tk x e f},Pth cd text k i ⟨bg,tk,x⟩ e f->(cd f.pc).kind=6->∃k' j tk' x',k'<=k/\A i tk x j tk' x'/\Pth cd text k' j ⟨next,tk',x'⟩ e f
structure Sm(text:ByteArray)(len dd:Nat)(em:Em)(M:Nat->Rl):Prop where
 lens:∀n next d,(em n next d).1.length=len
 wf:∀n next d N Dm,next<N->n+len<=N->d+dd<=Dm->(∀i∈(em n next d).1,i.kind<=5/\i.nx<N/\i.ot<N/\i.sl<20/\i.dp<=Dm/\(i.kind=3->2<=i.sl))/\(em n next d).2<N
 goes:∀cd n next d,AtC cd n (em n next d).1->gj cd text (em n next d).2 next (M d)
section
variable {cd:Nat->In}{text:ByteArray}{b c next:Nat}{A B:Rl}
theorem gj.id:gj cd text next next mId:=
 ⟨fun⟨h1,h2,h3⟩=>⟨0,by rw[h1,h2,h3];exact .nil⟩,fun{k i tk x e f} p _=>⟨k,i,tk,x,QD _,⟨rfl,rfl,rfl⟩,p⟩⟩
theorem gj.seq(h:gj cd text b c A)(h2:gj cd text c next B):gj cd text b next (te A B):=
 ⟨fun⟨_,_,_,a1,a2⟩=>by
   obtain⟨k,p⟩:=h.comp a1;obtain⟨l,q⟩:=h2.comp a2;exact p.trans q,fun p h6=>by
   obtain⟨k1,j1,t1,x1,l1,a1,p1⟩:=h.sound p h6;obtain⟨k2,j2,t2,x2,l2,a2,p2⟩:=h2.sound p1 h6
   exact⟨k2,j2,t2,x2,QC l2 l1,⟨_,_,_,a1,a2⟩,p2⟩⟩
theorem gj.or{n:Nat}(hc:cd n=gO 4 b c 0 0)(h:gj cd text b next A)(h2:gj cd text c next B):gj cd text n next (mOr A B):=by
 have s1:∀i tk x,Pth cd text 1 i ⟨n,tk,x⟩ i ⟨b,tk,x⟩:=fun i tk x=>fW (by unfold eps lR fM;simp[hc]);have s2:∀i tk x,Pth cd text 1 i ⟨n,tk,x⟩ i ⟨c,tk,x⟩:=fun i tk x=>fW (by unfold eps lR fM;simp[hc]);refine⟨fun a=>?_,fun p h6=>?_⟩
 .rcases a with a|a
  .obtain⟨k,p⟩:=h.comp a;exact(s1 _ _ _).trans p
  .obtain⟨k,p⟩:=h2.comp a;exact(s2 _ _ _).trans p
 .obtain⟨k',e1,q|q⟩:=jE hc p h6
  .obtain⟨k1,j1,t1,x1,l1,a1,p1⟩:=h.sound q h6;exact⟨k1,j1,t1,x1,by omega,.inl a1,p1⟩
  .obtain⟨k1,j1,t1,x1,l1,a1,p1⟩:=h2.sound q h6;exact⟨k1,j1,t1,x1,by omega,.inr a1,p1⟩
end
section
variable {text:ByteArray}
theorem sm_one(m:Nat->Bool):Sm text 1 0 (emOne m) (mOne text m):=by
 refine⟨fun _ _ _=>rfl,fun n next d N Dm h1 h2 h3=>⟨fun i hi=>?_,by show n<N;omega⟩,fun cd n next d hc=>?_⟩
 .have e:i=⟨0,next,0,0,d,m⟩:=by simpa[emOne] using hi
  subst e;exact⟨by simp,h1,by show 0<N;omega,by simp,by show d<=Dm;omega,fun q=>by cases q⟩
 .have h0:cd n=⟨0,next,0,0,d,m⟩:=hc.head;refine⟨fun⟨⟨hl,hm⟩,h1,h2,h3⟩=>⟨1,by rw[h1,h2,h3];exact Ib h0 hl hm⟩,fun p h6=>?_⟩;obtain⟨k',e1,hb,q⟩:=Gl h0 p h6;exact⟨k',_,_,_,by omega,⟨hb,rfl,rfl,rfl⟩,q⟩
theorem sm_edge(k:Nat)(hk:k=1\/k=2):Sm text 1 0 (Kl k) (fun _=>NJ text k):=by
 refine⟨fun _ _ _=>rfl,fun n next d N Dm h1 h2 h3=>⟨fun i hi=>?_,by show n<N;omega⟩,fun cd n next d hc=>?_⟩
 .have e:i=gO k next 0 0 0:=by simpa[Kl] using hi
  subst e;exact⟨by show k<=5;omega,h1,by show 0<N;omega,by simp,by show 0<=Dm;omega,fun q=>by have q:k=3:=q;omega⟩
 .have h0:cd n=gO k next 0 0 0:=hc.head;rcases hk with rfl|rfl
  .refine⟨fun{i tk x j tk' x'} hh=>?_,fun p h6=>?_⟩
   .obtain⟨h,rfl,rfl,rfl⟩:=hh;have hi:j=0:=by
     rcases h with⟨_,h⟩|⟨h,_⟩
     .exact h
     .omega
    exact⟨1,fW (by show _∈eps cd text j ⟨n,tk',x'⟩;unfold eps lR fM;simp[h0,hi])⟩
   .obtain⟨k',e1,hb,q⟩:=BI h0 p h6;exact⟨k',_,_,_,by omega,⟨.inl ⟨rfl,hb⟩,rfl,rfl,rfl⟩,q⟩
  .refine⟨fun{i tk x j tk' x'} hh=>?_,fun p h6=>?_⟩
   .obtain⟨h,rfl,rfl,rfl⟩:=hh;have hi:j=text.size:=by
     rcases h with⟨h,_⟩|⟨_,h⟩
     .omega
     .exact h
    exact⟨1,fW (by show _∈eps cd text j ⟨n,tk',x'⟩;unfold eps lR fM;simp[h0,hi])⟩
   .obtain⟨k',e1,hb,q⟩:=Ke h0 p h6;exact⟨k',_,_,_,by omega,⟨.inr ⟨rfl,hb⟩,rfl,rfl,rfl⟩,q⟩
theorem Mz{len dd g:Nat}{em:Em}{M:Nat->Rl}(h:Sm text len dd em M)(hg0:1<=g)(hg:g<=9):Sm text (len+2) dd (nQ g len em) (fun d=>DH g (M d)):=by
 refine⟨fun n next d=>?_,fun n next d N Dm h1 h2 h3=>?_,fun cd n next d hc=>?_⟩
 .show((_::(_++[_])):List In).length=len+2;rw[QF,Qy,h.lens];rfl
 .obtain⟨a1,a2⟩:=h.wf (n+1) n d N Dm (by omega) (by omega) h3;refine⟨fun i hi=>?_,by show n+1+len<N;omega⟩;have hi':i=gO 3 next 0 (2*g+1) 0\/i∈(em (n+1) n d).1\/i=gO 3 (em (n+1) n d).2 0 (2*g) 0:=by simpa[nQ] using hi
  rcases hi' with rfl|q|rfl
  .exact⟨by simp,h1,by show 0<N;omega,by show 2*g+1<20;omega,QG _,fun _=>by show 2<=2*g+1;omega⟩
  .exact a1 i q
  .exact⟨by simp,a2,by show 0<N;omega,by show 2*g<20;omega,QG _,fun _=>by show 2<=2*g;omega⟩
 .have hc':AtC cd n (gO 3 next 0 (2*g+1) 0::((em (n+1) n d).1++[gO 3 (em (n+1) n d).2 0 (2*g) 0])):=hc;have c1:=hc'.head;have c2:=h.goes cd (n+1) n d hc'.tail.left;have c3:cd (n+1+len)=gO 3 (em (n+1) n d).2 0 (2*g) 0:=(hc'.tail.right (h.lens _ _ _)).head;show gj cd text (n+1+len) next _;refine⟨fun{i tk x j tk' x'} hh=>?_,fun p h6=>?_⟩
  .obtain⟨x2,a,rfl⟩:=hh;obtain⟨k,p⟩:=c2.comp a;have s1:Pth cd text 1 i ⟨n+1+len,tk,x⟩ i ⟨(em (n+1) n d).2,tk,nu x (2*g) i⟩:=fW (by unfold eps lR fM;simp[c3]);have s2:Pth cd text 1 j ⟨n,tk',x2⟩ j ⟨next,tk',nu x2 (2*g+1) j⟩:=fW (by unfold eps lR fM;simp[c1]);obtain⟨l,q⟩:=s1.trans p;exact q.trans s2
  .obtain⟨k1,e1,q1⟩:=tr c3 p h6;obtain⟨k2,j,t2,x2,l2,a2,q2⟩:=c2.sound q1 h6;obtain⟨k3,e3,q3⟩:=tr c1 q2 h6;exact⟨k3,j,t2,_,by omega,⟨x2,a2,rfl⟩,q3⟩
end
section
variable {text:ByteArray}
theorem PE:∀l:List (It×(Nat->Rl)),(∀p∈l,Sm text p.1.len p.1.dd p.1.em p.2)->Sm text (dI (l.map (·.1))) (ddL (l.map (·.1))) (iY (l.map (·.1))) (PU (l.map (·.2)))
 | [],_=>⟨fun _ _ _=>rfl,fun n next d N Dm h1 _ _=>⟨fun i hi=>(by cases hi),h1⟩,fun cd n next d _=>gj.id⟩
 | p::l,h=>by
  have hp:=h p (by simp);have ih:=PE l (fun q hq=>h q (by simp[hq]));refine⟨fun n next d=>?_,fun n next d N Dm h1 h2 h3=>?_,fun cd n next d hc=>?_⟩
  .show((p.1.em n next d).1++_).length=p.1.len+dI (l.map (·.1));rw[Qy,hp.lens,ih.lens]
  .have h2':n+(p.1.len+dI (l.map (·.1)))<=N:=h2;have h3':d+max p.1.dd (ddL (l.map (·.1)))<=Dm:=h3;obtain⟨a1,a2⟩:=hp.wf n next d N Dm h1 (by omega) (by omega);obtain⟨b1,b2⟩:=ih.wf (n+p.1.len) (p.1.em n next d).2 d N Dm a2 (by omega) (by omega);refine⟨fun i hi=>?_,b2⟩;rcases List.mem_append.1 (show i∈(p.1.em n next d).1++_ from hi) with q|q
   .exact a1 i q
   .exact b1 i q
  .have hc':AtC cd n ((p.1.em n next d).1++(iY (l.map (·.1)) (n+p.1.len) (p.1.em n next d).2 d).1):=hc;exact(ih.goes cd _ _ d (hc'.right (hp.lens _ _ _))).seq (hp.goes cd n next d hc'.left)
theorem rZ:∀l:List (It×(Nat->Rl)),(∀p∈l,Sm text p.1.len p.1.dd p.1.em p.2)->∀(cd:Nat->In) (b n next d:Nat) (B:Rl),gj cd text b next B->AtC cd n (dQ (l.map (·.1)) b n next d).1->gj cd text (dQ (l.map (·.1)) b n next d).2 next (mBr (l.map (·.2)) B d)
 | [],_,cd,b,n,next,d,B,hb,_=>hb
 | p::l,h,cd,b,n,next,d,B,hb,hc=>by
  have hp:=h p (by simp);have hc':AtC cd n ((p.1.em n next d).1++(gO 4 (p.1.em n next d).2 b 0 0::(dQ (l.map (·.1)) (n+p.1.len) (n+p.1.len+1) next d).1)):=hc;have c2:=hc'.right (hp.lens _ _ _);exact rZ l (fun q hq=>h q (by simp[hq])) cd (n+p.1.len) (n+p.1.len+1) next d (mOr (p.2 d) B) (gj.or c2.head (hp.goes cd n next d hc'.left) hb) c2.tail
theorem uQ:∀l:List (It×(Nat->Rl)),(∀p∈l,Sm text p.1.len p.1.dd p.1.em p.2)->∀(b n next d N Dm:Nat),b<N->next<N->n+(dI (l.map (·.1))+l.length)<=N->d+ddL (l.map (·.1))<=Dm ->
  (∀i∈(dQ (l.map (·.1)) b n next d).1,i.kind<=5/\i.nx<N/\i.ot<N/\i.sl<20/\i.dp<=Dm/\(i.kind=3->2<=i.sl))/\(dQ (l.map (·.1)) b n next d).2<N/\(dQ (l.map (·.1)) b n next d).1.length=dI (l.map (·.1))+l.length
 | [],_,b,n,next,d,N,Dm,hb,_,_,_=>⟨fun i hi=>(by cases hi),hb,rfl⟩
 | p::l,h,b,n,next,d,N,Dm,hb,h1,h2,h3=>by
  have hp:=h p (by simp);have h2':n+(p.1.len+dI (l.map (·.1))+(l.length+1))<=N:=h2;have h3':d+max p.1.dd (ddL (l.map (·.1)))<=Dm:=h3;obtain⟨a1,a2⟩:=hp.wf n next d N Dm h1 (by omega) (by omega);obtain⟨b1,b2,b3⟩:=uQ l (fun q hq=>h q (by simp[hq])) (n+p.1.len) (n+p.1.len+1) next d N Dm (by omega) h1 (by omega) (by omega);refine⟨fun i hi=>?_,b2,?_⟩
  .rcases List.mem_append.1 (show i∈(p.1.em n next d).1++(gO 4 (p.1.em n next d).2 b 0 0::_) from hi) with q|q
   .exact a1 i q
   .rcases List.mem_cons.1 q with rfl|q
    .exact⟨by simp,a2,hb,by simp,QG _,fun q=>by cases q⟩
    .exact b1 i q
  .show((p.1.em n next d).1++(_::_)).length=p.1.len+dI (l.map (·.1))+(l.length+1);rw[Qy,QF,hp.lens,b3];omega
def lh:List (Nat->Rl)->Nat->Rl
 | [],_=>mId
 | m::ms,d=>mBr ms (m d) d
theorem AE(p:It×(Nat->Rl))(l:List (It×(Nat->Rl)))(h:∀q∈p::l,Sm text q.1.len q.1.dd q.1.em q.2):Sm text (dI ((p::l).map (·.1))+l.length) (ddL ((p::l).map (·.1))) (dA ((p::l).map (·.1))) (lh ((p::l).map (·.2))):=by
 have hp:=h p (by simp);have hl:∀q∈l,Sm text q.1.len q.1.dd q.1.em q.2:=fun q hq=>h q (by simp[hq]);refine⟨fun n next d=>?_,fun n next d N Dm h1 h2 h3=>?_,fun cd n next d hc=>?_⟩
 .obtain⟨_,_,b3⟩:=uQ l hl (p.1.em n next d).2 (n+p.1.len) next d ((p.1.em n next d).2+next+(n+p.1.len+(dI (l.map (·.1))+l.length))+1) (d+ddL (l.map (·.1))) (by omega) (by omega) (by omega) (QD _);show((p.1.em n next d).1++_).length=p.1.len+dI (l.map (·.1))+l.length;rw[Qy,hp.lens,b3];omega
 .have h2':n+(p.1.len+dI (l.map (·.1))+l.length)<=N:=h2;have h3':d+max p.1.dd (ddL (l.map (·.1)))<=Dm:=h3;obtain⟨a1,a2⟩:=hp.wf n next d N Dm h1 (by omega) (by omega);obtain⟨b1,b2,_⟩:=uQ l hl (p.1.em n next d).2 (n+p.1.len) next d N Dm a2 h1 (by omega) (by omega);refine⟨fun i hi=>?_,b2⟩;rcases List.mem_append.1 (show i∈(p.1.em n next d).1++_ from hi) with q|q
  .exact a1 i q
  .exact b1 i q
 .have hc':AtC cd n ((p.1.em n next d).1++(dQ (l.map (·.1)) (p.1.em n next d).2 (n+p.1.len) next d).1):=hc;exact rZ l hl cd _ _ next d (p.2 d) (hp.goes cd n next d hc'.left) (hc'.right (hp.lens _ _ _))
section
variable {len dd:Nat}{em:Em}{M:Nat->Rl}
theorem lV(h:Sm text len dd em M):∀(k:Nat) (cd:Nat->In) (n next d:Nat),AtC cd n (aY len em k n next d).1->gj cd text (aY len em k n next d).2 next (yO (M d) k)
 | 0,cd,n,next,d,_=>gj.id
 | k+1,cd,n,next,d,hc=>by
  have hc':AtC cd n ((em n next d).1++(aY len em k (n+len) (em n next d).2 d).1):=hc;exact(lV h k cd (n+len) _ d (hc'.right (h.lens _ _ _))).seq (h.goes cd n next d hc'.left)
theorem uh(h:Sm text len dd em M):∀(k n next d N Dm:Nat),next<N->n+k*len<=N->(k=0\/d+dd<=Dm)->(∀i∈(aY len em k n next d).1,i.kind<=5/\i.nx<N/\i.ot<N/\i.sl<20/\i.dp<=Dm/\(i.kind=3->2<=i.sl))/\(aY len em k n next d).2<N
 | 0,n,next,d,N,Dm,h1,_,_=>⟨fun i hi=>(by cases hi),h1⟩
 | k+1,n,next,d,N,Dm,h1,h2,h3=>by
  rw[QY,Q0] at h2;obtain⟨a1,a2⟩:=h.wf n next d N Dm h1 (by omega) (by omega);obtain⟨b1,b2⟩:=uh h k (n+len) (em n next d).2 d N Dm a2 (by omega) (by omega);refine⟨fun i hi=>?_,b2⟩;rcases List.mem_append.1 (show i∈(em n next d).1++_ from hi) with q|q
  .exact a1 i q
  .exact b1 i q
theorem ya(h:Sm text len dd em M):∀(k:Nat) (cd:Nat->In) (b n next d:Nat) (B:Rl),gj cd text b next B->AtC cd n (dD len em k b n next d).1->gj cd text (dD len em k b n next d).2 next (mUp (M d) k B)
 | 0,cd,b,n,next,d,B,hb,_=>hb
 | k+1,cd,b,n,next,d,B,hb,hc=>by
  have hc':AtC cd n ((em n b d).1++(gO 4 (em n b d).2 next 0 0::(dD len em k (n+len) (n+len+1) next d).1)):=hc;have c2:=hc'.right (h.lens _ _ _);exact ya h k cd (n+len) (n+len+1) next d _ (gj.or c2.head ((h.goes cd n b d hc'.left).seq hb) gj.id) c2.tail
theorem Ho(h:Sm text len dd em M):∀(k b n next d N Dm:Nat),b<N->next<N->n+k*(len+1)<=N->(k=0\/d+dd<=Dm)->(∀i∈(dD len em k b n next d).1,i.kind<=5/\i.nx<N/\i.ot<N/\i.sl<20/\i.dp<=Dm/\(i.kind=3->2<=i.sl))/\(dD len em k b n next d).2<N
 | 0,b,n,next,d,N,Dm,hb,_,_,_=>⟨fun i hi=>(by cases hi),hb⟩
 | k+1,b,n,next,d,N,Dm,hb,h1,h2,h3=>by
  rw[QY,Q0] at h2;obtain⟨a1,a2⟩:=h.wf n b d N Dm hb (by omega) (by omega);obtain⟨b1,b2⟩:=Ho h k (n+len) (n+len+1) next d N Dm (by omega) h1 (by omega) (by omega);refine⟨fun i hi=>?_,b2⟩;rcases List.mem_append.1 (show i∈(em n b d).1++(gO 4 (em n b d).2 next 0 0::_) from hi) with q|q
  .exact a1 i q
  .rcases List.mem_cons.1 q with rfl|q
   .exact⟨by simp,a2,h1,by simp,QG _,fun q=>by cases q⟩
   .exact b1 i q
theorem Er(h:Sm text len dd em M){cd:Nat->In}{n next d:Nat}(hc:AtC cd n (gC em n next d).1):gj cd text n next (qf (M (d+1)) d):=by
 have hc':AtC cd n (gO 4 (em (n+2) (n+1) (d+1)).2 next 0 0::gO 5 n 0 0 d::(em (n+2) (n+1) (d+1)).1):=hc;have c0:=hc'.head;have c1:=hc'.tail.head;have c2:=h.goes cd (n+2) (n+1) (d+1) hc'.tail.tail;refine⟨fun{i tk x j tk' x'} a=>?_,?_⟩
 .induction a with
  | stop=>exact⟨1,fW (by unfold eps lR fM;simp[c0])⟩
  | @turn i0 tk0 i1 t1 j1 tk1 x0 x1 x2 ha ht _ ih=>
   obtain⟨k,p⟩:=c2.comp ha;obtain⟨l,q⟩:=ih;have s1:Pth cd text 1 i0 ⟨n,tk0,x0⟩ i0 ⟨(em (n+2) (n+1) (d+1)).2,tk0,x0⟩:=fW (by unfold eps lR fM;simp[c0]);have s2:Pth cd text 1 i1 ⟨n+1,t1,x1⟩ i1 ⟨n,d,x1⟩:=fW (by unfold eps lR fM;simp[c1,show ¬t1<=d by omega]);obtain⟨m1,q1⟩:=s1.trans p;obtain⟨m2,q2⟩:=q1.trans s2;exact q2.trans q
 .have key:∀(K k i tk:Nat) (x:Nat->Int) (e:Nat) (f:Thr),k<=K->Pth cd text k i ⟨n,tk,x⟩ e f->(cd f.pc).kind=6->∃k' j tk' x',k'<=k/\qf (M (d+1)) d i tk x j tk' x'/\Pth cd text k' j ⟨next,tk',x'⟩ e f:=by
   intro K
   induction K with
   | zero=>
    intro k i tk x e f hk p h6;obtain⟨k1,e1,_⟩:=jE c0 p h6;omega
   | succ K ih=>
    intro k i tk x e f hk p h6;obtain⟨k1,e1,q|q⟩:=jE c0 p h6
    .obtain⟨k2,j2,t2,x2,l2,a2,q2⟩:=c2.sound q h6;obtain⟨k3,e3,ht,q3⟩:=Gk c1 q2 h6;obtain⟨k4,j4,t4,x4,l4,a4,q4⟩:=ih k3 j2 d x2 e f (by omega) q3 h6;exact⟨k4,j4,t4,x4,by omega,.turn a2 ht a4,q4⟩
    .exact⟨k1,i,tk,x,by omega,.stop,q⟩
  exact fun{k i tk x e f} p h6=>key k k i tk x e f (QD _) p h6
def mRep(M:Nat->Rl)(least:Nat):Option Nat->Nat->Rl
 | some m,d=>te (yO (M d) least) (mUp (M d) (m-least) mId)
 | none,d=>te (yO (M d) least) (qf (M (d+1)) d)
theorem sm_rep(h:Sm text len dd em M)(least:Nat)(most:Option Nat)(hok:∀m,most=some m->least<=m):Sm text (match most with|some m=>(m-least)*(len+1)+least*len|none=>len+2+least*len) (match most with|some m=>if m=0 then 0 else dd|none=>dd+1) (Gs len em least most) (mRep M least most):=by
 cases most with
 | some m=>
  refine⟨fun n next d=>?_,fun n next d N Dm h1 h2 h3=>?_,fun cd n next d hc=>?_⟩
  .show(_++_:List In).length=(m-least)*(len+1)+least*len;rw[Qy,lj h.lens,gZ h.lens]
  .have h2':n+((m-least)*(len+1)+least*len)<=N:=h2;have h3':d+(if m=0 then 0 else dd)<=Dm:=h3;have hd:m=0\/d+dd<=Dm:=by
    by_cases h0:m=0
    .exact .inl h0
    .rw[Qw h0] at h3';exact .inr h3'
   have hlm:=hok m rfl;obtain⟨a1,a2⟩:=Ho h (m-least) next n next d N Dm h1 h1 (by omega) (by omega);obtain⟨b1,b2⟩:=uh h least (n+(m-least)*(len+1)) _ d N Dm a2 (by omega) (by omega);refine⟨fun i hi=>?_,b2⟩;rcases List.mem_append.1 (show i∈(dD len em (m-least) next n next d).1++_ from hi) with q|q
   .exact a1 i q
   .exact b1 i q
  .have hc':AtC cd n ((dD len em (m-least) next n next d).1++(aY len em least (n+(m-least)*(len+1)) (dD len em (m-least) next n next d).2 d).1):=hc;exact(lV h least cd _ _ d (hc'.right (lj h.lens _ _ _ _ _))).seq (ya h (m-least) cd next n next d mId gj.id hc'.left)
 | none=>
  refine⟨fun n next d=>?_,fun n next d N Dm h1 h2 h3=>?_,fun cd n next d hc=>?_⟩
  .show((_::_::_)++_:List In).length=len+2+least*len;rw[Qy,QF,QF,h.lens,gZ h.lens]
  .have h2':n+(len+2+least*len)<=N:=h2;have h3':d+(dd+1)<=Dm:=h3;obtain⟨a1,a2⟩:=h.wf (n+2) (n+1) (d+1) N Dm (by omega) (by omega) (by omega);obtain⟨b1,b2⟩:=uh h least (n+(len+2)) n d N Dm (by omega) (by omega) (by omega);refine⟨fun i hi=>?_,b2⟩;rcases List.mem_append.1 (show i∈(gO 4 (em (n+2) (n+1) (d+1)).2 next 0 0::gO 5 n 0 0 d::(em (n+2) (n+1) (d+1)).1)++(aY len em least (n+(len+2)) n d).1 from hi) with q|q
   .rcases List.mem_cons.1 q with rfl|q
    .exact⟨by simp,a2,h1,by simp,QG _,fun q=>by cases q⟩
    .rcases List.mem_cons.1 q with rfl|q
     .exact⟨by simp,by show n<N;omega,by show 0<N;omega,by simp,by show d<=Dm;omega,fun q=>by cases q⟩
     .exact a1 i q
   .exact b1 i q
  .have hc':AtC cd n ((gC em n next d).1++(aY len em least (n+(len+2)) (gC em n next d).2 d).1):=hc;have hl:(gC em n next d).1.length=len+2:=by show((_::_::_):List In).length=_;rw[QF,QF,h.lens]
   exact(lV h least cd _ _ d (hc'.right hl)).seq (Er h hc'.left)
end
end
structure Pi where
 sz:Nat
 len:Nat
 dd:Nat
 em:Em
def It.Is(i:It)(p:Pi):Prop:=i.sz=p.sz/\i.len=p.len/\i.dd=p.dd/\i.em=p.em
def LJ(src:ByteArray)(fr G:Nat)(p:Pi):Prop:=∀(w:World) (b:Nat),b≠4->Rd w b src fr 0->Nm w ->
 Calls Tryz.prog 87 #[.pointer (some ⟨b,0,none⟩)] w fun e w'=>∃i:It,e=.returned i.v/\i.tv=206/\i.Is p/\(∃lo hi,hi<=w'.heap.size/\Nd lo hi w' i)/\Rd w' b src src.size G/\Kp [b] w w'
def codeOf(p:Pi):List In:=gO 6 0 0 0 0::(p.em 1 0 0).1
def cdL(l:List In)(a:Nat):In:=(l[a]?).getD (gO 6 0 0 0 0)
theorem Oi:de [gO 6 0 0 0 0]=Ga 6 0 0 0 0:=by
 rw[lz];unfold Bp;rw[qu]
 rfl
theorem Jr{a b:FuncId}{v u:Value}{w w':World}(h:(Result.ok (a,v) w:Result (FuncId×Value))=.ok (b,u) w'):a=b:=by
 injection h with q _;exact(Prod.mk.inj q).1
theorem Fc{src:ByteArray}{fr G:Nat}{p:Pi}(h:LJ src fr G p)(hsz:p.sz<=300)(hlen:1+p.len<=1000):Reads src fr G (1+p.len) ((p.em 1 0 0).2:Nat) p.dd (de (codeOf p)):=by
 intro w b hb hr hw;refine(h w b hb hr hw).mono ?_;rintro e w1 ⟨i,rfl,htv,⟨e1,e2,e3,e4⟩,⟨lo,hi,hhi,nd⟩,r1,k1⟩;obtain⟨fs,m1,_,cs⟩:=nd.sized;obtain⟨fe,m3,_,ce⟩:=nd.ri;have q1:=m1 w1;have q2:=m3 w1;rw[htv] at q1 q2;have hfs:fs=224:=by
  have:=q1.symm.trans (dL i.xv w1);exact Jr this
 have hfe:fe=223:=by
  have:=q2.symm.trans (fR i.xv w1);exact Jr this
 subst hfs hfe;refine⟨i.xv,p.sz,by unfold It.v;rw[htv],r1,k1,hsz,fun w2 k2=>?_,fun w2 L k2 hL w4 b4 l4=>?_⟩
 .have:=cs w2 ((Same.refl lo hhi).kp k2);rw[e1] at this;exact this
 .have hs4:Same lo hi w1 w4:=((Same.refl lo hhi).kp k2).below b4 (QC hhi hL);rw[<-Oi] at l4;refine(ce w4 L 1 _ 0 0 0 hs4 (QC hhi hL) (by omega) (by omega) (by omega) l4).mono ?_;rintro e w5 ⟨rfl,l5,b5,_⟩;rw[e2,e3,e4] at l5;refine⟨by rw[e4],?_,b5⟩;have hdd:max 0 (up 0 p.dd)=p.dd:=by unfold up;split<;>omega
  rw[hdd] at l5;exact l5
theorem KU{l:List In}{a:Nat}(h:a<l.length):l[a]? = some (cdL l a):=by
 unfold cdL;rw[QA h];rfl
theorem KT{text:ByteArray}{p:Pi}{M:Nat->Rl}(hm:Sm text p.len p.dd p.em M){B:Nat}{w:World}{q G:Nat}{bg:Int}(pt:PtR B w q (1+p.len) bg G p.dd (de (codeOf p))):∃g c,Cd w q g c (1+p.len) p.dd (cdL (codeOf p)):=by
 obtain⟨g,c,h1,h2⟩:=pt.code;have hl:=(h2.lt g rfl).2;have hcl:(codeOf p).length=1+p.len:=by unfold codeOf;rw[QF,hm.lens];omega
 have cell:∀a,a<1+p.len->∀j,j<9->w.cell? ⟨g,a*9+j,none⟩=(Bp (cdL (codeOf p) a))[j]?:=fun a ha j hj=>by
  rw[h2.cellAt (a*9+j) (by omega),xg _ a _ (KU (by omega)) j hj]
 obtain⟨wf1,_⟩:=hm.wf 1 0 0 (1+p.len) p.dd (by omega) (by omega) (by omega);refine⟨g,c,⟨pt.lt,hl,h1,pt.c3,fun a ha=>cell a ha 0 (by omega),fun a ha=>cell a ha 1 (by omega),fun a ha=>cell a ha 2 (by omega),fun a ha=>cell a ha 3 (by omega),fun a ha=>cell a ha 4 (by omega),fun a ha=>cell a ha 5 (by omega),fun a ha=>cell a ha 6 (by omega),fun a ha=>cell a ha 7 (by omega),fun a ha=>cell a ha 8 (by omega),fun a ha=>?_⟩⟩
 match a,ha with
 | 0,_=>exact⟨by simp[cdL,codeOf],by simp[cdL,codeOf];omega,by simp[cdL,codeOf];omega,by simp[cdL,codeOf],by simp[cdL,codeOf]⟩
 | a+1,ha=>
  have hm2:cdL (codeOf p) (a+1)∈(p.em 1 0 0).1:=by
   have:(p.em 1 0 0).1[a]? = some (cdL (codeOf p) (a+1)):=by
    have:=KU (l:=codeOf p) (a:=a+1) (by omega);simpa[codeOf] using this
   exact QM this
  obtain⟨a1,a2,a3,a4,a5,_⟩:=wf1 _ hm2;exact⟨by omega,a2,a3,a4,a5⟩
theorem pth_ok{cd:Nat->In}{n D bg k i e:Nat}{text:ByteArray}{t f:Thr}(hc:Cok cd n D bg)(h:Pth cd text k i t e f)(ht:okT n D t):okT n D f/\f.x 0=t.x 0:=by
 induction h with
 | nil=>exact⟨ht,rfl⟩
 | eps hu _ ih=>
  obtain⟨a,b⟩:=ih (Qe hc ht hu);exact⟨a,b.trans (eps_x hc ht hu)⟩
 | byte _ _ ih=>
  obtain⟨a,b⟩:=ih (Ae hc ht);exact⟨a,b⟩
