/- What the claim needs of: KO VP HW. -/
import Derived.Test.YtiahkfoojjpaaaaGreatDoorW05
import Derived.Test.YtiahkfoojjpaaaaGreatDoorW10
import Derived.Test.YtiahkfoojjpaaaaGreatDoorW41
import Derived.Test.YtiahkfoojjpaaaaGreatDoorW30
import Derived.Test.YtiahkfoojjpaaaaGreatDoorW32
import Derived.Lib.LaidTab
set_option maxRecDepth 100000
set_option maxHeartbeats 16000000
set_option linter.unusedVariables false
set_option linter.unusedSimpArgs false
namespace Go.Proofs.YtiahkfoojjpaaaaGreatDoor
open Go.RowKit Go.Shelf
section
variable {P:Program} {ops:Array Oper} {Q:Exit->Act->World->Prop} {md:Region.Mode} {l m:Nat}
def oP (ops:Array Oper):Bool:=ops.all fun o=>match o.op with | .defer _=>false | _=>true
theorem xH (h:oP ops=true) {i:Nat} {o:Oper} (hi:ops[i]? = some o):∀ c,o.op≠.defer c:=by
 intro c hc;unfold oP at h;rw [Array.all_eq_true] at h;obtain ⟨hl,e⟩:=Array.getElem?_eq_some_iff.1 hi;have:=h i hl;rw [e,hc] at this
 cases this
theorem rM {o:Oper} {a:Act} {w:World} {K:Act->World->Prop} (hd:∀ c,o.op≠.defer c) (h:o.wp P a w K Q):o.wpIn (Fence.wide.inRound l) m P a w K Q:=by
 unfold Oper.wpIn Oper.wp at *;refine ⟨fun _ _=>trivial,?_⟩;rw [Oper.semAt_eq _ _ _ hd];generalize (execOp a.eval o).run P w=r at *
 cases r with
 | ok x w'=>
  cases x <;> simp only [Oper.upon,Oper.uponIn] at h ⊢
  case value=>exact h
  case skip=>exact h
  case defer=>exact h
  case enter=>exact ⟨fun q=>(nomatch q),callsIn_wide.2 h⟩
  case row=>
   refine ⟨fun q=>(nomatch q),fun c cs _=>?_⟩;obtain ⟨v,w2,h1,h2⟩:=h c cs;exact ⟨v,w2,h1,stepsIn_wide.2 h2⟩
 | halt x w'=>cases x <;> simp only [Oper.upon,Oper.uponIn] at h ⊢ <;> exact h
theorem dG (hd:oP ops=true) (hL:¬ LetsOut Q):∀ (fuel:Nat) (listed:Array Bool) (a:Act) (w:World),wpAny P md ops Q fuel listed a w->wpAnyIn (Fence.wide.inRound l) m P md ops Q fuel listed a w
 | 0,_,_,_,h=>h
 | fuel+1,listed,a,w,h=>⟨h.1,fun i hi=>by
   have h1:=h.2 i hi;unfold wpOp at h1;unfold wpOpIn;split
   .rename_i ho;simp only [ho] at h1;exact dG hd hL fuel _ _ _ h1
   .rename_i o ho;simp only [ho] at h1;split
    .rename_i hw;rw [Oa hw] at h1;rcases h1 with h1 | h1
     .exact Oper.wpIn_mono (fun a' w' q=>dG hd hL fuel _ a' w' q) (rM (xH hd ho) h1)
     .exact absurd h1.2 hL
    .rename_i hw;rw [N7 hw] at h1
     exact ⟨fun _ _=>trivial,dG hd hL fuel _ _ _ h1⟩⟩
def pO (Q:Exit->Act->World->Prop):Exit->Act->World->Prop
 | .normal,a,w=>Q .normal a w
 | _,_,_=>False
theorem pO.normal {a:Act} {w:World} (h:Q .normal a w):pO Q .normal a w:=h
theorem pO.imp:∀ (e:Exit) (a:Act) (w:World),pO Q e a w->Q e a w:=fun e a w h=>by
 cases e <;> first | exact h | exact (h:False).elim
theorem iY {id:Nat} {a:Act} {w:World} (S:World->Prop) (z:Nat) (hm:P.follows .mixedOrders=true) (hd:oP ops=true)
  (h:dQ P .any ops (pO Q) S z ops.size (Array.replicate ops.size false) a w.drew):(Code.region id ops true).wpIn (Fence.wide.inRound l) m P Q a w:=
 Code.wpIn_mono pO.imp (wpIn_region_any hm (dG hd (fun ⟨_,_,q⟩=>q) _ _ _ _ (lg _ _ _ _ h)))
theorem lD {id:Nat} {a:Act} {w:World} (S:World->Prop) (hm:P.follows .mixedOrders=true) (hd:oP ops=true)
  (h:wpAnyH P .any ops (pO Q) S ops.size (Array.replicate ops.size false) a w.drew):(Code.region id ops true).wpIn (Fence.wide.inRound l) m P Q a w:=
 Code.wpIn_mono pO.imp (wpIn_region_any hm (dG hd (fun ⟨_,_,q⟩=>q) _ _ _ _ (wpAny_of_held _ _ _ _ h)))
theorem qk {S:World->Prop} {i:Nat} {o:Oper} {fuel:Nat} {listed:Array Bool} {a:Act} {w:World} (hr:Region.ready md ops listed=[i]) (ho:ops[i]? = some o)
  (h:∀ K:Act->World->Prop,Shut (∀ a' w',S w'->wpAnyH P md ops Q S fuel (listed.setIfInBounds i true) a' w'->K a' w')->if Region.wanted o (yielded ops a.tmps)=true then Oper.wp P o a w K Q else K (a.put o.dst undef) w) :
  wpAnyH P md ops Q S (fuel+1) listed a w:=by
 refine ⟨fun h0=>(by rw [hr] at h0;cases h0),fun j hj=>?_⟩;rw [hr] at hj;have e:=List.mem_singleton.1 hj;subst e;exact wpOp_step ho (fun K hK=>h K (fun a' w' h1 h2=>hK a' w' ⟨h1,h2⟩))
theorem zh {F:Fence} {r:Loop} {W:World} {args:Array Value} {R:Ending->World->Prop} (hF:F.fn r.fn) (hl:W.heap[l]? = some (.loop r)) (hr:r.state=.ready) (hp:r.pending=none) (hs:args.size=r.params.size)
  (h:∀ (rb:Loop) (K:Act->World->Prop),{ rb with state:=.ready,pending:=none }=r->(∀ a₁,r.body.wpIn (F.inRound l) m P (roundPost P l R) a₁ (W.putObj l (.loop rb))->K a₁ W) ->
    r.assign.wpIn (F.inRound l) m P (Exit.then K (fun _ _ _=>False)) { tmps:=(r.params.zip args).foldl (fun tmps (t,a)=>tmps.setIfInBounds t a) r.tmps,defers:=[] } W):YieldAt F m P l args W R:=by
 refine ⟨r.fn,_,r.assign,r.body,run_yield hl hs,roundIn_of_wpIn hF ?_⟩;refine h { r with state:=.busy } _ ?_ (fun a₁ hb=>⟨_,run_beginRound hl hr,hb⟩)
 cases r;simp only at hr hp;rw [hr,hp]
end
end Go.Proofs.YtiahkfoojjpaaaaGreatDoor
namespace Go.Proofs.YtiahkfoojjpaaaaGreatDoor
open Go.RowKit
section
variable {w0 w:World} {b k:Nat} {src:ByteArray} {σ:Sst} {r:RdS}
def MQ (r1 r2:RdS) (c:dz) (σ:Sst) (cv:List Value) (σ':Sst) (cv':List Value):Prop:=cv'.take 4=cv.take 4/\gy σ'.fs cv' c/\(jt σ r1->jt σ' r2)/\NP σ σ'
theorem ik.at_ {f e:Nat} {r2:RdS} {c:dz} (h:ik w0 f b src k σ r (.ok (e,r2,c))):Fe w0 f b src k e σ (MQ r r2 c):=by
 intro w cb cv hs hb hl hz hf hsl;refine (h w cb cv hs hb hl hz hf hsl).mono ?_;rintro q w1 ⟨rfl,σ',cv',s1,b1,l1,f1,x1,x2,x3,x4⟩;exact ⟨σ',cv',rfl,s1,b1,l1,f1,x1,x2,x3,x4⟩
theorem ik.fails {f E pl:Nat} (h:ik w0 f b src k σ r (.error (E,pl))):OpF w0 f b src k σ E pl:=by
 intro w cb cv hs hb hl hz hf hsl;refine (h w cb cv hs hb hl hz hf hsl).mono ?_;rintro q w1 ⟨rfl,hk⟩;exact ⟨rfl,hk⟩
theorem F8 {cv cv':List Value} (h:cv'.take 4=cv.take 4) {j:Nat} (hj:j < 4):cv'[j]? = cv[j]?:=by
 have:=congrArg (fun l=>l[j]?) h;simpa [O7,hj] using this
def CmdO (w0:World) (b:Nat) (src:ByteArray) (σ:Sst) (q:Nat×RdS) (w':World):Prop:=∃ σ',Sr w0 w' b src q.1 σ'/\jt σ' q.2/\σ'.quiet=σ.quiet
theorem C5 {w':World} {k5:Nat} {L:List gi} {nt:Bool} {x:Nat} {r1 r2:RdS} {c:dz} (h:A7 w0 w' b src k5 σ (L.map gi.A) nt x (MQ r1 r2 c)) (hr:jt σ r) (h1:r1=if L.length=2 then { r with ranges:=r.ranges+1 } else r)
  (ca:c.gQ=L) (cr:c.range=if L.length=2 then r.ranges else 0) (cn:c.neg=nt) (cw:c.what=x):CmdO w0 b src σ (k5,{ r2 with aI:=r2.aI++[c] }) w':=by
 obtain ⟨A,cc,fs,σ',cv',v',hA,hfs,⟨h4,hrest,hrel,hon⟩,s'⟩:=h;rw [OE] at hA h4 hrel hon;have hS:jt { σ with ranges:=if L.length=2 then σ.ranges+1 else σ.ranges,fs:=fs } r1:=by
  have q:=hr.mono hfs;rw [h1];by_cases h2:L.length=2
  .rw [Oa h2,Oa h2];exact ⟨q.len,q.cs,⟨q.nm.ns,q.nm.nm⟩,by show σ.ranges+1=r.ranges+1;rw [hr.rg],q.bs,q.ls,q.gs⟩
  .rw [N7 h2,N7 h2];exact ⟨q.len,q.cs,⟨q.nm.ns,q.nm.nm⟩,q.rg,q.bs,q.ls,q.gs⟩
 have hS':=hrel hS;refine ⟨_,s',⟨?_,?_,⟨hS'.nm.ns,hS'.nm.nm⟩,hS'.rg,hS'.bs,hS'.ls,hS'.gs⟩,hon.qt⟩
 .show (σ'.cs++[cv']).length=(r2.aI++[c]).length;rw [N9,N9,hS'.len]
  rfl
 .intro i d dc q1 q2;replace q1:(σ'.cs++[cv'])[i]? = some d:=q1;replace q2:(r2.aI++[c])[i]? = some dc:=q2;by_cases hi:i < σ'.cs.length
  .rw [OI hi] at q1;rw [OI (by rw [<-hS'.len];exact hi)] at q2;exact hS'.cs i d dc q1 q2
  .have hi':i=σ'.cs.length:=by
    have:=(List.getElem?_eq_some_iff.1 q1).1;simp at this;omega
   subst hi';rw [List.getElem?_concat_length] at q1;rw [hS'.len,List.getElem?_concat_length] at q2;injection q1 with q1;injection q2 with q2;subst q1 q2;refine ⟨⟨.slice A L.length cc,(F8 h4 (by omega)).trans rfl,by rw [ca];exact hA.mono hon.fx⟩,(F8 h4 (by omega)).trans ?_,(F8 h4 (by omega)).trans (by rw [cn];rfl),(F8 h4 (by omega)).trans (by rw [cw];rfl),hrest⟩;rw [cr];by_cases h2:L.length=2
   .rw [Oa h2,Oa h2,<-hr.rg]
    rfl
   .rw [N7 h2,N7 h2]
    rfl
theorem Je (hs:Sr w0 w b src k σ) (hw0:Nm w0) (hr:jt σ r) (hk:yK r k) :
  Calls Tryz.prog 105 #[.pointer (some ⟨b,0,none⟩)] w (OpO (cmdE src k r) w0 (CmdO w0 b src σ)):=by
 have hsm:=hs.cur.small;have hle:=hs.cur.le;have hn:σ.cs.length<=2000:=by rw [hr.len];have:=hk.cl;omega
 have hrg:σ.ranges<=2000:=by rw [hr.rg];have:=hk.rl;omega
 have hsl:Small σ 2000:=⟨by rw [hr.nm.ns];have:=hk.nl;omega,by rw [hr.bs];have:=hk.b8;omega,by rw [hr.gs];have:=hk.wl;omega⟩;unfold cmdE
 cases hA:adrsE src k with
 | error q=>
  obtain ⟨E,pl⟩:=q;exact Jg (P:=fun _=>True) (fun w σ hs=>AN hs hw0 hA) w σ hs hn hrg hsl trivial
 | ok q=>
  obtain ⟨k1,L⟩:=q;have hL:=adrsE_A hsm hle hA;have hLe:=Dc hsm hle hA;have hb1:=eF hLe.2.1;dsimp only;generalize hnt:saw src (blk src k1) 33=nt;have hN:(nt=false/\saw src (blk src k1) 33=false/\(if nt=true then blk src (blk src k1+1) else blk src k1)=blk src k1)\/(nt=true/\saw src (blk src k1) 33=true/\(if nt=true then blk src (blk src k1+1) else blk src k1)=blk src (blk src k1+1)):=by
   cases nt
   .exact .inl ⟨rfl,hnt,rfl⟩
   .exact .inr ⟨rfl,hnt,rfl⟩
  have h3s:(if nt=true then blk src (blk src k1+1) else blk src k1)<=src.size:=by
   cases nt
   .exact hb1
   .have:=aN hnt;exact eF (by omega)
  generalize (if nt=true then blk src (blk src k1+1) else blk src k1)=k3 at hN h3s ⊢;by_cases h3:k3 < src.size
  .rw [dif_pos h3];generalize hx:(src[k3]'h3).toNat=x
   cases hw:jx.contains x
   .rw [Oa rfl];exact jS (P:=fun _=>True) hw0 hL hN (fun σ _ r fs=>Fu h3 hx (oo x _ 0 0 (Ht hw))) w σ hs hn hrg hsl trivial
   .rw [N7 (by simp)];generalize hr1:(if L.length=2 then { r with ranges:=r.ranges+1 } else r)=r1;have e1:r1.aI=r.aI/\r1.names=r.names/\r1.blocks=r.blocks/\r1.labels=r.labels/\r1.wanted=r.wanted:=by
     rw [<-hr1];split <;> exact ⟨rfl,rfl,rfl,rfl,rfl⟩
    generalize hrn:(if L.length=2 then r.ranges else 0)=rn;obtain ⟨f,i,ht,hce,hop⟩:=oper_g (r:=r1) (L:=L) (rn:=rn) (nt:=nt) (b:=b) (k:=k3+1) hw0 hw (by omega) (by omega) hsm (by rw [e1.2.2.1];exact hk.b8) (by rw [e1.1];have:=hk.cl;omega) (by rw [e1.1,e1.2.2.1];exact hk.bl);by_cases hbad:(x=125\/x=58)/\(nt=true\/L≠[])
    .rw [Oa hbad];refine jS (P:=fun _=>True) hw0 hL hN (fun σ _ r fs=>Fv h3 hx ht hbad.1 (hbad.2.imp_right fun q=>?_)) w σ hs hn hrg hsl trivial;rw [OE];exact List.length_pos_iff.2 q
    .rw [N7 hbad];have hbare:(x=125\/x=58)->L.map gi.A=[]/\nt=false:=fun q=>by
      have q2:=not_or.1 (fun q3=>hbad ⟨q,q3⟩);have q4:L=[]:=by
       cases L with
       | nil=>rfl
       | cons a l=>exact absurd (List.cons_ne_nil a l) q2.2
      subst q4;exact ⟨rfl,by simpa using q2.1⟩
     have hW:∀ rr fs,MP { σ with ranges:=rr,fs:=fs } r1:=fun rr fs=>⟨by rw [e1.1];exact hr.len,⟨by rw [e1.2.1];exact hr.nm.ns,by rw [e1.2.1];exact hr.nm.nm⟩,by rw [e1.2.2.1];exact hr.bs,by rw [e1.2.2.2.1];exact hr.ls,by rw [e1.2.2.2.2];exact hr.gs⟩
     cases ho:operE src (k3+1) r1 (dv L rn nt x) with
     | error q=>
      obtain ⟨E,pl⟩:=q;rw [ho] at hop;refine jS (P:=fun σ1=>σ1=σ) hw0 hL hN (fun σ1 hσ1 rr fs=>?_) w σ hs hn hrg hsl rfl;subst hσ1;exact what_op h3 hx ht (fun q=>⟨by rw [(hbare q).1];rfl,(hbare q).2⟩) (hop _ (hW rr fs)).fails hce
     | ok q=>
      obtain ⟨e,r2,c⟩:=q;have hok:=Ck hsm (by omega) ho;rw [ho] at hop;dsimp only;have hR:∀ (σ:Sst) (cv:List Value) (σ':Sst) (cv':List Value),MQ r1 r2 c σ cv σ' cv'->cv'[3]? = cv[3]?/\σ'.cs.length=σ.cs.length:=fun σ cv σ' cv' q=>⟨F8 q.1 (by omega),q.2.2.2.cl⟩
      have hat:∀ rr fs,Fe w0 f b src (k3+1) e { σ with ranges:=rr,fs:=fs } (MQ r1 r2 c):=fun rr fs=>(hop _ (hW rr fs)).at_;by_cases h123:x=123
      .rw [Oa h123];refine (yp hs hw0 hL hN h3 hx ht hbare hat hce hR (.inl ⟨h123,rfl⟩) hn hrg hsl).mono ?_;rintro q w1 ⟨rfl,h⟩;exact ⟨rfl,C5 h hr hr1.symm hok.ca (by rw [hok.cr,<-hrn];rfl) hok.cn hok.cw⟩
      .rw [N7 h123]
       cases hm:ir src (blk src e)
       .rw [N7 (by simp)];refine Jf (P:=fun σ1=>σ1=σ) hw0 hL hN (by unfold saw;rw [dif_pos h3,hx];simp) ht hbare (fun σ1 hσ1 rr fs=>?_) hce hR ⟨h123,hm⟩ w σ hs hn hrg hsl rfl;subst hσ1;exact hat rr fs
       .rw [Oa rfl];refine (yp hs hw0 hL hN h3 hx ht hbare hat hce hR (.inr ⟨h123,hm,rfl⟩) hn hrg hsl).mono ?_;rintro q w1 ⟨rfl,h⟩;exact ⟨rfl,C5 h hr hr1.symm hok.ca (by rw [hok.cr,<-hrn];rfl) hok.cn hok.cw⟩
  .rw [dif_neg h3];exact jS (P:=fun _=>True) hw0 hL hN (fun σ _ r fs=>J7 (by omega)) w σ hs hn hrg hsl trivial
end
end Go.Proofs.YtiahkfoojjpaaaaGreatDoor
namespace Go.Proofs.YtiahkfoojjpaaaaGreatDoor
open Go.ChangeShapes Go.WideShapes Go.ChangeAt Go.RowKit
theorem gNamesF : Tryz.prog.globalNamed "ribbon/pattern.names" = some 4 := by kernel_rfl
theorem Da {l:List Value} {k j:Nat} {v:Value} (h:(((l.drop k).take 2).drop j).take 1=[v]) (hj:j < 2):l[k+j]? = some v:=by
 have h2:=congrArg (fun x=>x[0]?) h;simp only [O7,List.getElem?_drop,Nat.add_zero,Po] at h2;rw [Oa (by omega),Oa hj] at h2;exact h2
theorem yv {s:ByteArray} {l:List UInt8} (h:s.data.toList=l):s=⟨l.toArray⟩:=by
 cases s;subst h;simp
theorem uEntryF:∃ fs:Array Field,Tryz.prog.underlying 256=some (.struct fs)/\∃ f0 f1,fs[0]? = some f0/\fs[1]? = some f1/\fs.size=2/\f0.type=9/\f0.offset=0/\f1.type=9/\f1.offset=1:=
 ⟨_,Tryz.underlying256,_,_,rfl,rfl,rfl,rfl,rfl,rfl,rfl⟩
theorem I2 {W:World} (h:laidMetH Tryz.prog Aa W):∀ i,i < 7->∃ s t:ByteArray,W.cell? ⟨4,i * 2,none⟩=some (.string s)/\W.cell? ⟨4,i * 2+1,none⟩=some (.string t) /\
  (match (Rows.laid_ribbon_pattern_names:DataW Unit) with | .agg l=>l | _=>[])[i]? = some (.agg [.lit (.string s.data.toList),.lit (.string t.data.toList)]):=by
 rw [MakeChecks.laidMetH_plain _ _ _ (by kernel_rfl)] at h;obtain ⟨ps,hl,_,_⟩:=h;obtain ⟨_,_,_,_,_,q1,_,_,_,_,hl1,_⟩:=hl;obtain ⟨_,_,_,_,_,q2,_,_,_,_,hl2,_⟩:=hl1;obtain ⟨_,_,_,_,_,q3,_,_,_,_,hl3,_⟩:=hl2;obtain ⟨g,t,cs,fuel,p,q,hg,ht,hv,hd,_,_⟩:=hl3;obtain rfl:=Option.some.inj (gNamesF.symm.trans hg);obtain rfl:=Option.some.inj ((show (Tryz.prog.globals[4]?).map (·.type)=some 257 by kernel_rfl).symm.trans ht);obtain ⟨xs,m,_,ex,_,hl,hel⟩:=DataW.trod_array Tryz.underlying257 hd;have c2:Tryz.prog.cellsOf 256=2:=by kernel_rfl
 have c1:Tryz.prog.cellsOf 9=1:=by kernel_rfl
 have us:Tryz.prog.underlying 9=some .string:=by kernel_rfl
 obtain ⟨fs,ufs,f0,f1,e0,e1,esz,t0,o0,t1,o1⟩:=uEntryF;intro i hi;have hE:=hel i hi;rw [c2,Ob (by omega)] at hE;obtain ⟨ys,n,_,ey,_,hyl,hys⟩:=DataW.trod_struct ufs hE;rw [esz] at hyl;have h0:=hys 0 f0 e0;have h1:=hys 1 f1 e1;rw [t0,o0,c1,Ob (by omega)] at h0;rw [t1,o1,c1,Ob (by omega)] at h1;obtain ⟨s,es,es',_⟩:=DataW.trod_string us h0;obtain ⟨u,eu,eu',_⟩:=DataW.trod_string us h1;have d0:=Da es (by omega);have d1:=Da eu (by omega);refine ⟨s,u,?_,?_,?_⟩
 .rw [World.var?_cell hg hv];simpa using d0
 .rw [World.var?_cell hg hv];simpa using d1
 .have e3:(xs.map (·.1))[i]? = some (.agg (ys.map (·.1))):=by rw [OG,Ob (by omega:i < xs.length),ey];rfl
  have e4:(Rows.laid_ribbon_pattern_names:DataW Unit)=.agg (xs.map (·.1)):=(Prod.mk.inj ex).1;rw [e4];show (xs.map (·.1))[i]? = _;rw [e3]
  match ys,hyl,es',eu' with
  | [y0,y1],_,es',eu'=>
   have a0:y0=_:=es';have a1:y1=_:=eu';rw [a0,a1];rfl
theorem nm_ofF {W:World} (h:laidMetH Tryz.prog Aa W):Nm W:=by
 have key:=I2 h;have all:∀ i,i < 7->W.cell? ⟨4,i * 2,none⟩=some (.string (nmN i))/\W.cell? ⟨4,i * 2+1,none⟩=some (.string (nmS i)):=by
  intro i hi;obtain ⟨s,t,h1,h2,h3⟩:=key i hi
  match i,hi with
  | 0,_ | 1,_ | 2,_ | 3,_ | 4,_ | 5,_ | 6,_=>
   simp only [Rows.laid_ribbon_pattern_names,Po,List.getElem?_cons_succ,Option.some.injEq,DataW.agg.injEq,List.cons.injEq,DataW.lit.injEq,Lit.string.injEq,and_true] at h3;rw [h1,h2,yv h3.1.symm,yv h3.2.symm];exact ⟨rfl,rfl⟩
 exact ⟨World.block_lt_of_cell? _ _ (all 0 (by omega)).1,fun i hi=>(all i hi).1,fun i hi=>(all i hi).2⟩
theorem KI:(Rows.laid_internal_strconv_uint64pow10:DataW Unit)=Lib.tabData .u64 Lib.pow10Tab:=by kernel_rfl
noncomputable def gP : Nat := (Tryz.prog.globalNamed "internal/strconv.uint64pow10").getD 0
noncomputable def tP:TypeId:=((Tryz.prog.globals[gP]?).map (·.type)).getD 0
theorem gPow : ∃ g t, Tryz.prog.globalNamed "internal/strconv.uint64pow10" = some g /\ (Tryz.prog.globals[g]?).map (·.type) = some t /\ Tryz.prog.underlying t = some (.array 20 148) /\ Tryz.prog.cellsOf t = 20 := ⟨gP, tP, by kernel_rfl, by kernel_rfl, by kernel_rfl, by kernel_rfl⟩
theorem pow_of {W:World} (h:laidMetH Tryz.prog Aa W):Pow W:=by
 rw [MakeChecks.laidMetH_plain _ _ _ (by kernel_rfl)] at h;obtain ⟨ps,hl,_,_⟩:=h;obtain ⟨_,_,_,_,_,q1,_,_,_,_,hl1,_⟩:=hl;obtain ⟨_,_,_,_,_,q2,_,_,_,_,hl2,_⟩:=hl1;obtain ⟨g',t',cs,fuel,p,q,hg',ht',hvar,hd,_,_⟩:=hl2;obtain ⟨g,t,hg,hty,ht,hct⟩:=gPow;obtain rfl:=Option.some.inj (hg.symm.trans hg');obtain rfl:=Option.some.inj (hty.symm.trans ht');rw [KI] at hd;unfold Pow Lib.TabIs;rw [hvar,<-Lib.cells_of_tab ht (by kernel_rfl) (by kernel_rfl) hct hd]
end Go.Proofs.YtiahkfoojjpaaaaGreatDoor
