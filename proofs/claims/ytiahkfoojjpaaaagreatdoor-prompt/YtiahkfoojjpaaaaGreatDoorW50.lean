/- What the claim needs of: XY HU HX. -/
import Derived.Test.YtiahkfoojjpaaaaGreatDoorW48
set_option maxRecDepth 100000
set_option maxHeartbeats 16000000
set_option linter.unusedVariables false
set_option linter.unusedSimpArgs false
namespace Go.Proofs.YtiahkfoojjpaaaaGreatDoor
open Go.RowKit
section
variable {o d:List UInt8} {u v u1 u2:Ust} {S:eI}
theorem zg (hP:eS S):∀ (k k':Nat) (u:Ust),gE S u->u.oQ S.aI.length < k->u.oQ S.aI.length < k'->Ust.runF S k u=Ust.runF S k' u
 | 0,_,_,_,h1,_=>absurd h1 (by omega)
 | _+1,0,_,_,_,h2=>absurd h2 (by omega)
 | k+1,k'+1,u,h,h1,h2=>by
  unfold Ust.runF;split
  .rfl
  .cases hs:u.ay with
   | error e=>rfl
   | ok x=>
    cases x with
    | none=>rfl
    | some u1=>
     dsimp only
     cases hl:u1.look S with
     | error e=>rfl
     | ok u2=>
      dsimp only;obtain ⟨i2,m2⟩:=eZ hP h hs hl;exact zg hP k k' u2 i2 (by omega) (by omega)
theorem lU (hP:eS S) {k:Nat} (h:gE S u) (hk:u.oQ S.aI.length < k):u.run S=gI (Ust.runF S k u):=by
 rw [jC,zg hP (u.fuel S) k u h (Im _ u S rfl) hk]
theorem BS (hP:eS S):∀ (k:Nat) (u:Ust),gE S u->gE S (u.fr [] d)->u.ended=false->u.oQ S.aI.length < k->∀ k',(u.fr [] d).oQ S.aI.length < k' ->
  (∀ E v,Ust.runF S k u=.error (E,v)->Ust.runF S k' (u.fr [] d)=.error (E,v.fr [] d)) /\
  (∀ v,Ust.runF S k u=.ok v->(v.over=true->Ust.runF S k' (u.fr [] d)=.ok (v.fr [] d))/\(v.over=false->v.ended=false/\gE S v/\gE S (v.fr [] d)/\v.left.length+v.number<=u.left.length+u.number/\(v.fr [] d).oQ S.aI.length < k'/\Ust.runF S k' (u.fr [] d)=Ust.runF S k' (v.fr [] d)))
 | 0,_,_,_,_,h1,_,_=>absurd h1 (by omega)
 | _+1,_,_,_,_,_,0,h2=>absurd h2 (by omega)
 | k+1,u,h,hf,he,h1,k'+1,h2=>by
  by_cases ho:u.over=true
  .have e1:Ust.runF S (k+1) u=.ok u:=by
    unfold Ust.runF;rw [Oa ho]
   have e2:Ust.runF S (k'+1) (u.fr [] d)=.ok (u.fr [] d):=by
    unfold Ust.runF;rw [Oa (show (u.fr [] d).over=true from ho)]
   rw [e1,e2];refine ⟨fun E v e=>(by cases e),fun v e=>?_⟩;injection e with e;subst e;exact ⟨fun _=>rfl,fun q=>by rw [ho] at q;cases q⟩
  .have e1:Ust.runF S (k+1) u=(match u.ay with
     | .error e=>.error e
     | .ok none=>.ok u
     | .ok (some u1)=>match u1.look S with
      | .error e=>.error e
      | .ok u2=>Ust.runF S k u2):=by
    rw [Ust.runF,N7 ho]
    rfl
   have e2:Ust.runF S (k'+1) (u.fr [] d)=(match (u.fr [] d).ay with
     | .error e=>.error e
     | .ok none=>.ok (u.fr [] d)
     | .ok (some u1)=>match u1.look S with
      | .error e=>.error e
      | .ok u2=>Ust.runF S k' u2):=by
    rw [Ust.runF,N7 (show ¬ (u.fr [] d).over=true from ho)]
    rfl
   obtain ⟨F1,F2⟩:=oA (o:=[]) (d:=d) he
   cases hs:u.ay with
   | error q=>
    obtain ⟨E,v⟩:=q;rw [F1 E v hs] at e2;rw [hs] at e1;rw [e1,e2];refine ⟨fun E' v' e=>?_,fun v e=>(by cases e)⟩;injection e with e;injection e with q1 q2;rw [<-q1,<-q2]
   | ok x=>
    cases x with
    | none=>
     rw [hs] at e1;rw [e1];refine ⟨fun E v e=>(by cases e),fun v e=>?_⟩;injection e with e;subst e;exact ⟨fun q=>absurd q ho,fun _=>⟨he,h,hf,Od _,h2,rfl⟩⟩
    | some u1=>
     have hs2:=F2 u1 hs;rw [hs2] at e2;rw [hs] at e1;dsimp only at e1 e2;have he1:u1.ended=false:=(gV hs).1.trans he;have hns:dB d u1:=by
      unfold dB Ust.none_;show (u1.ended && _)=(u1.ended && _);rw [he1]
      rfl
     have hlf:=zX (o:=[]) (S:=S) hns;obtain ⟨i1,w1,c1⟩:=dK h hs;have n1:=(gV hs).2
     cases hl:u1.look S with
     | error q=>
      obtain ⟨E,v⟩:=q;rw [hl] at e1 hlf;rw [hlf] at e2;rw [e1,e2];refine ⟨fun E' v' e=>?_,fun v e=>(by cases e)⟩;replace e:(Except.error (E,v):RU)=.error (E',v'):=e;injection e with e;injection e with q1 q2;rw [<-q1,<-q2]
      rfl
     | ok u2=>
      rw [hl] at e1 hlf;rw [hlf] at e2;replace e1:Ust.runF S (k+1) u=Ust.runF S k u2:=e1;replace e2:Ust.runF S (k'+1) (u.fr [] d)=Ust.runF S k' (u2.fr [] d):=e2;obtain ⟨i2,m2⟩:=eZ hP h hs hl;obtain ⟨j2,k2⟩:=eZ hP hf hs2 hlf;have he2:=tO hP i1 hl;have hl2:=(nK hP i1 w1 hl).2.1;obtain ⟨R1,R2⟩:=BS hP k u2 i2 j2 (he2.1.trans he1) (by omega) k' (by omega);rw [e1,e2];refine ⟨R1,fun v e=>⟨(R2 v e).1,fun q=>?_⟩⟩;obtain ⟨r1,r2,r3,r4,r5,r6⟩:=(R2 v e).2 q;refine ⟨r1,r2,r3,?_,by omega,?_⟩
      .rw [hl2,he2.2.1] at r4;omega
      .rw [r6];exact zg hP k' (k'+1) (v.fr [] d) r3 r5 (by omega)
theorem Ny:u.fr o []={ u with out:=o++u.out }:=by
 unfold Ust.fr;rw [Oy]
theorem uX (e:u.ay=.ok none):(u.fr o []).ay=.ok none:=by
 rw [Ny];rw [dq] at e ⊢;show (if u.aE=.no then .ok (some { u with out:=o++u.out }) else Ust.sup u.aE (cutL u.left) { u with out:=o++u.out })=_;by_cases h0:u.aE=.no
 .rw [Oa h0] at e
  cases e
 .rw [N7 h0] at e ⊢;unfold Ust.sup at e ⊢;by_cases hl:1000 < (cutL u.left).1.length
  .rw [Oa hl] at e
   cases e
  .rw [N7 hl] at e ⊢;by_cases ht:u.there=true
   .rw [Oa ht] at e;split at e
    .cases e
    .split at e <;> cases e
    .cases e
   .rw [N7 (show ¬ ({ u with out:=o++u.out }:Ust).there=true from ht)]
theorem BO (hP:eS S):∀ (k:Nat) (u:Ust),gE S u->u.ended=false->Ust.runF S k (u.fr o [])=frR o [] (Ust.runF S k u)
 | 0,_,_,_=>rfl
 | k+1,u,h,he=>by
  by_cases ho:u.over=true
  .rw [Ust.runF,Ust.runF,Oa (show (u.fr o []).over=true from ho),Oa ho]
   rfl
  .rw [Ust.runF,Ust.runF,N7 (show ¬ (u.fr o []).over=true from ho),N7 ho];obtain ⟨F1,F2⟩:=oA (o:=o) (d:=[]) he
   cases hs:u.ay with
   | error q=>
    obtain ⟨E,v⟩:=q;rw [F1 E v hs]
    rfl
   | ok x=>
    cases x with
    | none=>
     rw [uX hs]
     rfl
    | some u1=>
     rw [F2 u1 hs];dsimp only;have hns:dB [] u1:=by
      unfold dB Ust.none_;show (u1.ended && (u1.left++[]).isEmpty)=_;rw [Oy]
     rw [zX hns];obtain ⟨i1,w1,_⟩:=dK h hs
     cases hl:u1.look S with
     | error q=>rfl
     | ok u2=>exact BO hP k u2 (eZ hP h hs hl).1 ((tO hP i1 hl).1.trans ((gV hs).1.trans he))
theorem run_pre (hP:eS S) (h:gE S u) (he:u.ended=false):(u.fr o []).run S=(u.run S).fr o []:=by
 have e:(u.fr o []).fuel S=u.fuel S:=by
  rw [Ny]
  rfl
 rw [jC,jC,e,BO hP _ u h he]
 cases Ust.runF S (u.fuel S) u <;> rfl
def Fed (S:eI) (u:Ust):Prop:=Fm S u/\(u.over=false->u.ended=false)
theorem ub (hP:eS S) {d1 d2:List UInt8} (h:Fed S u) (hb:u.over=false->u.left.length+d1.length+d2.length+u.number<=281474976710656) :
  u.feed S (d1++d2)=(⟨(u.feed S d1).1.out++((u.feed S d1).2.feed S d2).1.out,((u.feed S d1).2.feed S d2).1.over,((u.feed S d1).2.feed S d2).1.err,((u.feed S d1).2.feed S d2).1.status⟩,((u.feed S d1).2.feed S d2).2)/\Fed S (u.feed S d1).2/\((u.feed S d1).2.over=false->(u.feed S d1).2.left.length+(u.feed S d1).2.number<=u.left.length+u.number+d1.length):=by
 obtain ⟨hi,he⟩:=h;have overs:∀ x:Ust,x.over=true->∀ D,x.feed S D=(⟨x.out,true,x.err,x.status⟩,{ x with out:=[],left:=[] }):=fun x hx D=>by
  unfold Ust.feed Ust.fH;rw [Oa hx,hx,Oa rfl]
 rcases hi with ⟨hov,hl⟩ | ⟨hov,hi⟩
 .rw [overs u hov,overs u hov,overs _ (show ({ u with out:=[],left:=[] }:Ust).over=true from hov)];refine ⟨?_,⟨.inl ⟨hov,rfl⟩,fun q=>?_⟩,fun q=>?_⟩
  .dsimp only;rw [Oy]
  .rw [show ({ u with out:=[],left:=[] }:Ust).over=u.over from rfl,hov] at q
   cases q
  .rw [show ({ u with out:=[],left:=[] }:Ust).over=u.over from rfl,hov] at q
   cases q
 .have hb:=hb hov;have he:=he hov;have k:=hi.ok.ok;obtain ⟨w,hw⟩:∃ w:Ust,w={ u with left:=u.left++d1 }:=⟨_,rfl⟩;have iw:gE S w:=by
   rw [hw];exact ⟨⟨⟨k.sp,k.hd,k.ct,k.ot,k.fb,k.bt,k.bl,by show (u.left++d1).length+u.number<=_;rw [N9];omega⟩,hi.ok.fb,hi.ok.rg,hi.ok.pc,hi.ok.st⟩,hi.bs,hi.bw⟩
  have iw2:gE S (w.fr [] d2):=by
   rw [hw];exact ⟨⟨⟨k.sp,k.hd,k.ct,k.ot,k.fb,k.bt,k.bl,by show (u.left++d1++d2).length+u.number<=_;rw [N9,N9];omega⟩,hi.ok.fb,hi.ok.rg,hi.ok.pc,hi.ok.st⟩,hi.bs,hi.bw⟩
  have wo:w.over=false:=by rw [hw];exact hov
  have we:w.ended=false:=by rw [hw];exact he
  have wl:w.left.length+w.number=u.left.length+u.number+d1.length:=by
   rw [hw];show (u.left++d1).length+u.number=_;rw [N9];omega
  have E1:u.feed S d1=(w.run S).fH:=by
   unfold Ust.feed;rw [N7 (by rw [hov];simp),hw]
  have E2:u.feed S (d1++d2)=((w.fr [] d2).run S).fH:=by
   unfold Ust.feed;rw [N7 (by rw [hov];simp),hw];show (({ u with left:=u.left++(d1++d2) }:Ust).run S).fH=(({ u with left:=u.left++d1++d2 }:Ust).run S).fH;rw [Om]
  obtain ⟨K,hK⟩:∃ K,w.oQ S.aI.length < K/\(w.fr [] d2).oQ S.aI.length < K:=⟨w.oQ S.aI.length+(w.fr [] d2).oQ S.aI.length+1,by omega,by omega⟩;obtain ⟨R1,R2⟩:=BS hP K w iw iw2 we hK.1 K hK.2;have rw1:=lU hP iw hK.1;have rw2:=lU hP iw2 hK.2;rw [rw1] at E1;rw [rw2] at E2;rw [E1,E2]
  cases hr:Ust.runF S K w with
  | error q=>
   obtain ⟨E,v⟩:=q;rw [R1 E v hr];have a1:(gI (.error (E,v))).fH=(⟨v.out,true,E,v.status⟩,{ v with over:=true,err:=E,out:=[],left:=[] }):=rfl;have a2:(gI (.error (E,v.fr [] d2))).fH=(⟨v.out,true,E,v.status⟩,{ v with over:=true,err:=E,out:=[],left:=[] }):=rfl;rw [a1,a2,overs _ (show ({ v with over:=true,err:=E,out:=[],left:=[] }:Ust).over=true from rfl)];refine ⟨?_,⟨.inl ⟨rfl,rfl⟩,fun q=>(by cases q)⟩,fun q=>(by cases q)⟩;dsimp only;rw [Oy]
  | ok v=>
   obtain ⟨r1,r2⟩:=R2 v hr;by_cases hv:v.over=true
   .rw [r1 hv];have a1:(gI (.ok v)).fH=(⟨v.out,true,v.err,v.status⟩,{ v with out:=[],left:=[] }):=by
     show (((⟨v.out,v.over,v.err,v.status⟩:Ust.Rep),({ v with out:=[],left:=if v.over then [] else v.left }:Ust)):Ust.Rep×Ust)=_;rw [hv]
     rfl
    have a2:(gI (.ok (v.fr [] d2))).fH=(⟨v.out,true,v.err,v.status⟩,{ v with out:=[],left:=[] }):=by
     show (((⟨[]++v.out,v.over,v.err,v.status⟩:Ust.Rep),({ v with out:=[],left:=if v.over then [] else v.left++d2 }:Ust)):Ust.Rep×Ust)=_;rw [hv]
     rfl
    rw [a1,a2,overs _ (show ({ v with out:=[],left:=[] }:Ust).over=true from hv)];refine ⟨?_,⟨.inl ⟨hv,rfl⟩,fun q=>?_⟩,fun q=>?_⟩
    .dsimp only;rw [Oy]
    .rw [show ({ v with out:=[],left:=[] }:Ust).over=v.over from rfl,hv] at q
     cases q
    .rw [show ({ v with out:=[],left:=[] }:Ust).over=v.over from rfl,hv] at q
     cases q
   .have hv:v.over=false:=by simpa using hv
    obtain ⟨r3,r4,r5,r6,r7,r8⟩:=r2 hv;rw [r8];have a1:(gI (.ok v)).fH=(⟨v.out,false,v.err,v.status⟩,{ v with out:=[] }):=by
     show (((⟨v.out,v.over,v.err,v.status⟩:Ust.Rep),({ v with out:=[],left:=if v.over then [] else v.left }:Ust)):Ust.Rep×Ust)=_;rw [hv]
     rfl
    rw [a1];dsimp only;have kv:=r4.ok.ok;have k5:=r5.ok.ok.lf;obtain ⟨W,hW⟩:∃ W:Ust,W={ v with out:=[],left:=v.left++d2 }:=⟨_,rfl⟩;have iW:gE S W:=by
     rw [hW];exact ⟨⟨⟨kv.sp,kv.hd,kv.ct,Og _,kv.fb,kv.bt,kv.bl,k5⟩,r4.ok.fb,r4.ok.rg,r4.ok.pc,r4.ok.st⟩,r4.bs,r4.bw⟩
    have E3:({ v with out:=[] }:Ust).feed S d2=(W.run S).fH:=by
     unfold Ust.feed;rw [N7 (by rw [hv];simp),hW]
    have E4:v.fr [] d2=W.fr v.out []:=by
     rw [hW];show ({ v with left:=v.left++d2,out:=[]++v.out }:Ust)={ v with left:=v.left++d2++[],out:=v.out++[] };rw [Oy,Oy]
     rfl
    have E5:gI (Ust.runF S K (v.fr [] d2))=(W.run S).fr v.out []:=by
     rw [<-lU hP r5 r7,E4];exact run_pre hP iW (by rw [hW];exact r3)
    rw [E3,E5];refine ⟨?_,⟨.inr ⟨hv,⟨⟨⟨kv.sp,kv.hd,kv.ct,Og _,kv.fb,kv.bt,kv.bl,kv.lf⟩,r4.ok.fb,r4.ok.rg,r4.ok.pc,r4.ok.st⟩,r4.bs,r4.bw⟩⟩,fun _=>r3⟩,fun _=>?_⟩
    .show ((⟨v.out++(W.run S).out,(W.run S).over,(W.run S).err,(W.run S).status⟩,{ W.run S with out:=[],left:=if (W.run S).over then [] else (W.run S).left++[] }):Ust.Rep×Ust)=_;rw [Oy]
     rfl
    .show v.left.length+v.number<=_;omega
end
section
variable {u v:Ust} {S:eI} {d d1 d2:List UInt8}
theorem Hs (h:u.over=true) (ho:u.out=[]):(u.feed S d).1=⟨[],true,u.err,u.status⟩/\(u.feed S d).2.over=true:=by
 unfold Ust.feed Ust.fH;rw [Oa h,ho,h];exact ⟨rfl,rfl⟩
structure Btc (S:eI) (u:Ust):Prop where
 inv:Fm S u
 out:u.out=[]
 fbl:u.fb.length=S.names.length
theorem Jv (hP:eS S) (ah:Bool):Btc S (nF ah S.names.length S.ranges):=⟨rO hP ah,rfl,by show (List.replicate _ _).length=_;simp⟩
theorem I0 (hP:eS S) (h:Btc S u) (hd:u.over=false->u.left.length+d.length+u.number<=281474976710656):Btc S (u.feed S d).2/\(u.feed S d).1.out.length<=200000:=by
 refine ⟨⟨CO hP h.inv hd,rfl,?_⟩,?_⟩
 .show (if u.over then u else ({ u with left:=u.left++d }:Ust).run S).fb.length=_;rcases h.inv with ⟨ho,_⟩ | ⟨ho,hi⟩
  .rw [Oa ho];exact h.fbl
  .rw [N7 (by rw [ho];simp)];have k:=hi.ok.ok;exact (GN hP (u:={ u with left:=u.left++d }) ⟨⟨⟨k.sp,k.hd,k.ct,k.ot,k.fb,k.bt,k.bl,by show (u.left++d).length+u.number<=_;rw [N9];exact hd ho⟩,hi.ok.fb,hi.ok.rg,hi.ok.pc,hi.ok.st⟩,hi.bs,hi.bw⟩).2.1
 .show (if u.over then u else ({ u with left:=u.left++d }:Ust).run S).out.length<=_;rcases h.inv with ⟨ho,_⟩ | ⟨ho,hi⟩
  .rw [Oa ho,h.out];exact Og _
  .rw [N7 (by rw [ho];simp)];have k:=hi.ok.ok;exact (GN hP (u:={ u with left:=u.left++d }) ⟨⟨⟨k.sp,k.hd,k.ct,k.ot,k.fb,k.bt,k.bl,by show (u.left++d).length+u.number<=_;rw [N9];exact hd ho⟩,hi.ok.fb,hi.ok.rg,hi.ok.pc,hi.ok.st⟩,hi.bs,hi.bw⟩).1
def Ust.Rep.pre (O:List UInt8) (r:Ust.Rep):Ust.Rep:=⟨O++r.out,r.over,r.err,r.status⟩
end
section
variable {o d:List UInt8} {u v u1 u2:Ust} {S:eI}
structure Stk (d:List UInt8):Prop where
 le:(cutL d).1.length<=1000
 no:(cutL d).2.getD []=[]
theorem rV (hw:u.aE≠.no) (he:u.ended=false) (ha:u.ahead=true) (hd:Stk u.left):u.ay=.ok none:=by
 rw [dq,N7 hw];unfold Ust.sup;have ht:u.there=false:=by
  unfold Ust.there;rw [N7 (by rw [he];simp),Oa ha,hd.no]
  rfl
 rw [N7 (by have:=hd.le;omega),ht,N7 (by simp)]
theorem nosame (he:u.ended=false):dB d u:=by
 unfold dB Ust.none_;show (u.ended && _)=(u.ended && _);rw [he]
 rfl
theorem BK (hP:eS S) (hd:Stk d):∀ (k:Nat) (u:Ust),gE S u->u.left=[]->u.ended=false->u.ahead=true->Ust.runF S k (u.fr [] d)=frR [] d (Ust.runF S k u)
 | 0,_,_,_,_,_=>rfl
 | k+1,u,h,hl,he,ha=>by
  by_cases ho:u.over=true
  .rw [Ust.runF,Ust.runF,Oa (show (u.fr [] d).over=true from ho),Oa ho]
   rfl
  .have e1:Ust.runF S (k+1) u=(match u.ay with
     | .error e=>.error e
     | .ok none=>.ok u
     | .ok (some u1)=>match u1.look S with
      | .error e=>.error e
      | .ok u2=>Ust.runF S k u2):=by
    rw [Ust.runF,N7 ho]
    rfl
   have e2:Ust.runF S (k+1) (u.fr [] d)=(match (u.fr [] d).ay with
     | .error e=>.error e
     | .ok none=>.ok (u.fr [] d)
     | .ok (some u1)=>match u1.look S with
      | .error e=>.error e
      | .ok u2=>Ust.runF S k u2):=by
    rw [Ust.runF,N7 (show ¬ (u.fr [] d).over=true from ho)]
    rfl
   rw [e1,e2];by_cases hw:u.aE=.no
   .rw [dq u,Oa hw,dq (u.fr [] d),Oa (show (u.fr [] d).aE=.no from hw)];dsimp only;rw [zX (nosame he)]
    cases hlk:u.look S with
    | error q=>rfl
    | ok v=>
     obtain ⟨i1,l1,_⟩:=nK hP h hw hlk;obtain ⟨a1,_,a3⟩:=tO hP h hlk;exact BK hP hd k v i1 (l1.trans hl) (a1.trans he) (a3.trans ha)
   .rw [rV hw he ha (by rw [hl];exact ⟨by decide,rfl⟩),rV (u:=u.fr [] d) hw he ha (by show Stk (u.left++d);rw [hl];exact hd)]
    rfl
theorem CY:∀ l:List UInt8,∃ p,l=p++(cutL l).2.getD []
 | []=>⟨[],rfl⟩
 | c::l=>by
  obtain ⟨p,hp⟩:=CY l;unfold cutL;split
  .exact ⟨[c],rfl⟩
  .exact ⟨c::p,by rw [OU];exact congrArg (c::·) hp⟩
theorem yQ (e:u.ay=.ok (some u1)):u1.ahead=u.ahead/\∃ p,u.left=p++u1.left:=by
 rw [dq] at e;by_cases hw:u.aE=.no
 .rw [Oa hw] at e;injection e with e;injection e with e;subst e;exact ⟨rfl,[],rfl⟩
 .rw [N7 hw] at e;unfold Ust.sup at e;have hs:=CY u.left;split at e
  .cases e
  .split at e
   .split at e
    .injection e with e;injection e with e;subst e;exact ⟨rfl,hs⟩
    .split at e
     .cases e
     .injection e with e;injection e with e;subst e;exact ⟨rfl,hs⟩
    .injection e with e;injection e with e;subst e;exact ⟨rfl,hs⟩
   .cases e
theorem BQ (hP:eS S):∀ (k:Nat) (u v:Ust),gE S u->u.oQ S.aI.length < k->Ust.runF S k u=.ok v->(v.over=false->v.ay=.ok none)/\v.ended=u.ended/\v.ahead=u.ahead/\∃ p,u.left=p++v.left
 | 0,_,_,_,h1,_=>absurd h1 (by omega)
 | k+1,u,v,h,h1,e=>by
  by_cases ho:u.over=true
  .rw [Ust.runF,Oa ho] at e;injection e with e;subst e;exact ⟨(fun q=>by rw [ho] at q;cases q),rfl,rfl,[],rfl⟩
  .rw [Ust.runF,N7 ho] at e
   cases hs:u.ay with
   | error q=>rw [hs] at e;cases e
   | ok x=>
    rw [hs] at e
    cases x with
    | none=>
     injection e with e;subst e;exact ⟨fun _=>hs,rfl,rfl,[],rfl⟩
    | some u1=>
     dsimp only at e
     cases hl:u1.look S with
     | error q=>rw [hl] at e;cases e
     | ok u2=>
      rw [hl] at e;obtain ⟨i2,m2⟩:=eZ hP h hs hl;obtain ⟨i1,w1,_⟩:=dK h hs;obtain ⟨_,l2,_⟩:=nK hP i1 w1 hl;obtain ⟨a1,_,a3⟩:=tO hP i1 hl;obtain ⟨b1,p1,hp1⟩:=yQ hs;obtain ⟨c1,c2,c3,p2,hp2⟩:=BQ hP k u2 v i2 (by omega) e;exact ⟨c1,c2.trans (a1.trans (gV hs).1),c3.trans (a3.trans b1),p1++p2,by rw [hp1,<-l2,hp2,Om]⟩
def Nl (l:List UInt8):Prop:=l=[]\/∃ q,l=q++[10]
theorem Nl.suf {p s:List UInt8} (h:Nl (p++s)):Nl s:=by
 rcases O8 s with rfl | ⟨t,c,rfl⟩
 .exact .inl rfl
 .rcases h with h | ⟨q,h⟩
  .have:=congrArg List.length h;simp at this
  .rw [OV,<-Om] at h;obtain ⟨_,e⟩:=List.append_inj' h rfl;injection e with e;subst e;exact .inr ⟨t,OV⟩
theorem Nl.app {p s:List UInt8} (h:Nl p) (k:Nl s):Nl (p++s):=by
 rcases k with rfl | ⟨q,rfl⟩
 .rw [Oy];exact h
 .exact .inr ⟨p++q,by rw [Om]⟩
theorem Ay:∀ q:List UInt8,(cutL (q++[10])).2≠none
 | []=>by decide
 | c::q=>by
  rw [OU];unfold cutL;split
  .intro e;cases e
  .exact Ay q
theorem rU (e:u.ay=.ok none):u.aE≠.no/\(cutL u.left).1.length<=1000/\u.there=false:=by
 rw [dq] at e;by_cases hw:u.aE=.no
 .rw [Oa hw] at e
  cases e
 .rw [N7 hw] at e;unfold Ust.sup at e;by_cases h1:1000 < (cutL u.left).1.length
  .rw [Oa h1] at e
   cases e
  .rw [N7 h1] at e;refine ⟨hw,by omega,?_⟩
   cases ht:u.there with
   | false=>rfl
   | true=>
    rw [ht,Oa rfl] at e;split at e
    .cases e
    .split at e <;> cases e
    .cases e
theorem tH (hw:u.aE≠.no) (h1:(cutL u.left).1.length<=1000) (ht:u.there=false):u.ay=.ok none:=by
 rw [dq,N7 hw];unfold Ust.sup;rw [N7 (by omega),ht,N7 (by simp)]
structure Pmt (S:eI) (u:Ust):Prop where
 fd:Fed S u
 ot:u.out=[]
 ah:u.over=false->u.ahead=S.ahead
 dry:u.over=false->u.ay=.ok none
 nl:u.over=false->Nl u.left
theorem pmt0 (hP:eS S):Pmt S (nF S.ahead S.names.length S.ranges):=by
 refine ⟨⟨rO hP _,fun _=>rfl⟩,rfl,fun _=>rfl,fun _=>?_,fun _=>.inl rfl⟩;refine tH (fun e=>by cases e) (by show 0<=1000;omega) ?_;unfold Ust.there nF
 cases S.ahead <;> rfl
theorem Cj (ho:u.over=true):u.feed S d=(⟨u.out,true,u.err,u.status⟩,{ u with out:=[],left:=[] }):=by
 unfold Ust.feed Ust.fH;rw [Oa ho,ho,Oa rfl]
theorem nQ (ho:u.over=false):u.feed S d=(({ u with left:=u.left++d }:Ust).run S).fH:=by
 unfold Ust.feed;rw [N7 (by rw [ho];simp)]
theorem gE.more (h:gE S u) (hb:u.left.length+d.length+u.number<=281474976710656):gE S { u with left:=u.left++d }:=by
 have k:=h.ok.ok;exact ⟨⟨⟨k.sp,k.hd,k.ct,k.ot,k.fb,k.bt,k.bl,by show (u.left++d).length+u.number<=_;rw [N9];omega⟩,h.ok.fb,h.ok.rg,h.ok.pc,h.ok.st⟩,h.bs,h.bw⟩
theorem Fed.sinv (h:Fed S u) (ho:u.over=false):gE S u:=by
 rcases h.1 with ⟨q,_⟩ | ⟨_,q⟩
 .rw [ho] at q;cases q
 .exact q
theorem Pmt.feed (hP:eS S) (h:Pmt S u) (hd:Nl d) (hb:u.over=false->u.left.length+d.length+u.number<=281474976710656):Pmt S (u.feed S d).2:=by
 have hf:=(ub hP (d1:=d) (d2:=[]) h.fd (fun q=>by have:=hb q;rw [Pa];omega)).2.1;refine ⟨hf,rfl,?_,?_,?_⟩ <;> clear hf
 all_goals
  intro hv
  cases ho:u.over with
  | true=>
   rw [Cj ho] at hv;rw [show ({ u with out:=[],left:=[] }:Ust).over=u.over from rfl,ho] at hv
   cases hv
  | false=>
   rw [nQ ho] at hv ⊢;have iU:=(h.fd.sinv ho).more (hb ho);rw [lU hP iU (OM _)] at hv ⊢
   cases hr:Ust.runF S (({ u with left:=u.left++d }:Ust).oQ S.aI.length).succ { u with left:=u.left++d } with
   | error q=>rw [hr] at hv;cases hv
   | ok v=>
    rw [hr] at hv;obtain ⟨c1,c2,c3,p,hp⟩:=BQ hP _ _ v iU (OM _) hr;have hv:v.over=false:=hv;have hl:((gI (.ok v)).fH).2={ v with out:=[] }:=by
     show ({ v with out:=[],left:=if v.over then [] else v.left }:Ust)=_;rw [hv]
     rfl
    rw [hl];first
    | exact c3.trans (h.ah ho)
    | (obtain ⟨n1,n2,n3⟩:=rU (c1 hv)
       exact tH n1 n2 n3)
    | exact Nl.suf (p:=p) (by rw [<-hp];exact (h.nl ho).app hd)
theorem Pmt.ends (h:Pmt S u) (ha:S.ahead=false):(u.end_ S).1=⟨[],true,u.err,u.status⟩:=by
 unfold Ust.end_;rcases Bool.eq_false_or_eq_true u.over with ho | ho
 .rw [Oa ho];show (⟨u.out,u.over,u.err,u.status⟩:Ust.Rep)=_;rw [h.ot,ho]
 .rw [N7 (by rw [ho];simp)];obtain ⟨n1,n2,n3⟩:=rU (h.dry ho);have hl:u.left=[]:=by
   rcases h.nl ho with q | ⟨q,hq⟩
   .exact q
   .unfold Ust.there at n3;rw [N7 (by rw [h.fd.2 ho];simp),N7 (by rw [h.ah ho,ha];simp)] at n3;have:=Ay q;rw [<-hq] at this
    cases hc:(cutL u.left).2 with
    | none=>exact absurd hc this
    | some r=>rw [hc] at n3;cases n3
  have hs:({ u with ended:=true }:Ust).ay=.ok none:=by
   refine tH n1 n2 ?_;unfold Ust.there;rw [Oa rfl];show (!u.left.isEmpty)=false;rw [hl]
   rfl
  obtain ⟨k,hk⟩:∃ k,({ u with ended:=true }:Ust).fuel S=k+1:=by
   refine ⟨_,(Nat.succ_pred_eq_of_pos ?_).symm⟩;unfold Ust.fuel;exact Nat.mul_pos (Nat.succ_pos _) (by omega)
  rw [jC,hk,Ust.runF,N7 (by show ¬ u.over=true;rw [ho];simp),hs];show (⟨u.out,true,u.err,u.status⟩:Ust.Rep)=_;rw [h.ot]
theorem gE.less (h:gE S (u.fr [] d)):gE S u:=by
 have k:=h.ok.ok;have q:(u.left++d).length+u.number<=281474976710656:=k.lf;rw [N9] at q;exact ⟨⟨⟨k.sp,k.hd,k.ct,k.ot,k.fb,k.bt,k.bl,by omega⟩,h.ok.fb,h.ok.rg,h.ok.pc,h.ok.st⟩,h.bs,h.bw⟩
theorem GP (R:RU):(gI (frR [] d R)).out=(gI R).out:=by
 cases R <;> rfl
theorem run_one (hP:eS S) (hU:gE S u) (ho:u.over=false) (hd:Stk d) (e:u.ay=.ok (some (v.fr [] d))) (hv:v.left=[]) (he:v.ended=false) (ha:v.ahead=true) (hw:v.aE=.no) (hvo:v.over=false):gE S v/\(u.run S).out=(v.run S).out:=by
 have iv:=(dK hU e).1.less;refine ⟨iv,?_⟩;obtain ⟨K,k1,k2⟩:∃ K,u.oQ S.aI.length < K+1/\v.oQ S.aI.length < K+1:=⟨u.oQ S.aI.length+v.oQ S.aI.length,by omega,by omega⟩;rw [lU hP hU k1,lU hP iv k2,show (gI (Ust.runF S (K+1) v)).out=(gI (frR [] d (Ust.runF S (K+1) v))).out from (GP _).symm,<-BK hP hd (K+1) v iv hv he ha]
 have e1:Ust.runF S (K+1) u=(match u.ay with
   | .error e=>.error e
   | .ok none=>.ok u
   | .ok (some u1)=>match u1.look S with
    | .error e=>.error e
    | .ok u2=>Ust.runF S K u2):=by
  rw [Ust.runF,N7 (by rw [ho];simp)]
  rfl
 have e2:Ust.runF S (K+1) (v.fr [] d)=(match (v.fr [] d).ay with
   | .error e=>.error e
   | .ok none=>.ok (v.fr [] d)
   | .ok (some u1)=>match u1.look S with
    | .error e=>.error e
    | .ok u2=>Ust.runF S K u2):=by
  rw [Ust.runF,N7 (show ¬ (v.fr [] d).over=true by show ¬ v.over=true;rw [hvo];simp)]
  rfl
 have e3:(v.fr [] d).ay=.ok (some (v.fr [] d)):=by rw [dq,Oa (show (v.fr [] d).aE=.no from hw)]
 rw [e1,e2,e,e3]
theorem Pmt.same (hP:eS S) (h:Pmt S u) (ha:S.ahead=true):∃ X:List UInt8,∀ d,Stk d->d≠[]->(u.over=false->u.left.length+d.length+u.number<=281474976710656)->(u.feed S d).1.out=X:=by
 rcases Bool.eq_false_or_eq_true u.over with ho | ho
 .refine ⟨[],fun d _ _ _=>?_⟩;rw [Cj ho];exact h.ot
 .have iu:=h.fd.sinv ho;have he:=h.fd.2 ho;have hah:u.ahead=true:=(h.ah ho).trans ha;obtain ⟨n1,n2,n3⟩:=rU (h.dry ho);rcases h.nl ho with hl | ⟨q,hq⟩
  .refine ⟨[],fun d hd _ hb=>?_⟩;rw [nQ ho];have hs:({ u with left:=u.left++d }:Ust).ay=.ok none:=rV n1 he hah (by show Stk (u.left++d);rw [hl];exact hd);rw [lU hP (iu.more (hb ho)) (OM _),Ust.runF,N7 (by show ¬ u.over=true;rw [ho];simp),hs];exact h.ot
  .cases hc:(cutL u.left).2 with
   | none=>exact absurd hc (by rw [hq];exact Ay q)
   | some r=>
    have hr:r=[]:=by
     unfold Ust.there at n3;rw [N7 (by rw [he];simp),Oa hah,hc] at n3
     cases r with
     | nil=>rfl
     | cons _ _=>cases n3
    subst hr;have hcd:∀ d,cutL (u.left++d)=((cutL u.left).1,some d):=fun d=>jR hc;have hth:∀ d,d≠[]->({ u with left:=u.left++d }:Ust).there=true:=fun d hn=>by
     unfold Ust.there;rw [N7 (show ¬ u.ended=true by rw [he];simp),Oa hah];show (!((cutL (u.left++d)).2.getD []).isEmpty)=true;rw [hcd]
     cases d with
     | nil=>exact absurd rfl hn
     | cons _ _=>rfl
    have hsup:∀ wn,u.aE=wn->∀ d,({ u with left:=u.left++d }:Ust).ay=({ u with left:=u.left++d }:Ust).sup wn ((cutL u.left).1,some d):=fun wn e d=>by
     subst e;rw [dq,N7 (show ¬ u.aE=.no from n1)];show ({ u with left:=u.left++d }:Ust).sup u.aE (cutL (u.left++d))=_;rw [hcd]
    have fin:∀ v:Ust,v.left=[]->v.ended=false->v.ahead=true->v.aE=.no->v.over=false->(∀ d,d≠[]->({ u with left:=u.left++d }:Ust).ay=.ok (some (v.fr [] d)))->∃ X:List UInt8,∀ d,Stk d->d≠[]->(u.over=false->u.left.length+d.length+u.number<=281474976710656)->(u.feed S d).1.out=X:=fun v v1 v2 v3 v4 v5 hs=>
     ⟨(v.run S).out,fun d hd hn hb=>by
       rw [nQ ho]
       exact (run_one hP (iu.more (hb ho)) ho hd (hs d hn) v1 v2 v3 v4 v5).2⟩
    cases hw:u.aE with
    | no=>exact absurd hw n1
    | bw=>
     refine fin (({ u with left:=[],number:=u.number+1,aE:=.no,steps:=0 }:Ust).iZ (cutL u.left).1) rfl he hah rfl ho (fun d hn=>?_);rw [hsup _ hw d];unfold Ust.sup;rw [N7 (by show ¬ 1000 < (cutL u.left).1.length;omega),hth d hn,Oa rfl]
     rfl
    | gw=>
     refine fin { u with left:=[],number:=u.number+1,aE:=.no,space:=(cutL u.left).1 } rfl he hah rfl ho (fun d hn=>?_);rw [hsup _ hw d];unfold Ust.sup;rw [N7 (by show ¬ 1000 < (cutL u.left).1.length;omega),hth d hn,Oa rfl]
     rfl
    | gm=>
     by_cases h4:4000 < (u.space++10::(cutL u.left).1).length
     .refine ⟨[],fun d hd hn hb=>?_⟩;have hs:({ u with left:=u.left++d }:Ust).ay=.error (8,{ u with left:=d,number:=u.number+1,aE:=.no }):=by
       rw [hsup _ hw d];unfold Ust.sup;rw [N7 (by show ¬ 1000 < (cutL u.left).1.length;omega),hth d hn,Oa rfl];dsimp only;rw [Oa h4]
       rfl
      rw [nQ ho,lU hP (iu.more (hb ho)) (OM _),Ust.runF,N7 (by show ¬ u.over=true;rw [ho];simp),hs];exact h.ot
     .refine fin { u with left:=[],number:=u.number+1,aE:=.no,space:=u.space++10::(cutL u.left).1 } rfl he hah rfl ho (fun d hn=>?_);rw [hsup _ hw d];unfold Ust.sup;rw [N7 (by show ¬ 1000 < (cutL u.left).1.length;omega),hth d hn,Oa rfl];dsimp only;rw [N7 h4]
      rfl
end
end Go.Proofs.YtiahkfoojjpaaaaGreatDoor
