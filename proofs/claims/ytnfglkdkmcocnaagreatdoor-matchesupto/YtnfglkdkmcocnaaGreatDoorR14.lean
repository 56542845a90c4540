import Derived.Test.YtnfglkdkmcocnaaGreatDoorR13
set_option maxRecDepth 100000
set_option maxHeartbeats 16000000
set_option linter.all false
namespace Go.Proofs.YtnfglkdkmcocnaaGreatDoor
open Go.RowKit
section
variable {cd:Nat→In} {text:ByteArray} {n D bg pl:Nat}
def bo (s:Mc):Option Zt:=if s.fd=true then some s.best else none
noncomputable def vl (cd:Nat→In) (text:ByteArray) (pl:Nat) (s:Mc):Option Zt:=(s.ahead.flatMap (cmp cd text (pl+1))).foldl pick (bo s)
structure Iv (cd:Nat→In) (text:ByteArray) (n D pl:Nat) (O:Thr→Prop) (s:Mc) (b:Int):Prop where
 cov:∀ u,okT n D u→s.sn (seenAt n D pl u)=true→O u∨∀ k M,compF cd text k pl u=some M→∀ z∈M,Cvd (vl cd text pl s) b (z 1)
 le:s.fd=true→b≤s.best 0∧s.best 1≤pl
 once:∀ x,s.fd=true→s.best 1=pl→s.sn (seenAt n D pl ⟨0,0,x⟩)=true
structure Gn (cd:Nat→In) (text:ByteArray) (n D pl:Nat) (b:Int) (s s1:Mc):Prop where
 left:s1.left=s.left
 new:∃ A,s1.ahead=s.ahead++A∧∀ u∈A,okT n D u∧u.x 0=b∧Has cd text (pl+1) u∧pl < text.size
 sn:∀ x,s1.sn x=true→s.sn x=true∨∃ u,okT n D u∧x=seenAt n D pl u
theorem epsC_two {pc tk:Nat} {c e:Nat×Nat} {l:List (Nat×Nat)} (h:epsC cd text pl pc tk=c::e::l):l=[]:=by
 unfold epsC at h
 repeat' split at h
 all_goals first | (cases h;rfl) | (cases h;done)
theorem step_on {t:Thr} (h0:(cd t.pc).kind≠0) (h6:(cd t.pc).kind≠6) (hk:(cd t.pc).kind≤6) (s:Mc) :
  stepA cd text pl t s=((eps cd text pl t).head?,{ s with left:=s.left++(eps cd text pl t).tail }):=by
 rw [stepA_eq hk]
 simp [takesB,h0,h6]
theorem Gn.next {b:Int} {s s0 s1:Mc} {t:Thr} (ht:okT n D t) (h:Gn cd text n D pl b s0 s1) (e1:s0.left=s.left) (e2:s0.ahead=s.ahead) (e3:s0.sn=more s.sn (seenAt n D pl t)):Gn cd text n D pl b s s1:=by
 refine ⟨h.left.trans e1,by rw [←e2];exact h.new,fun x hx=>?_⟩
 rcases h.sn x hx with q | q
 ·rw [e3] at q
  simp only [more,Bool.or_eq_true,beq_iff_eq] at q
  rcases q with q | q
  ·exact .inl q
  ·exact .inr ⟨t,ht,q⟩
 ·exact .inr q
theorem Gn.trans {b:Int} {s s1 s2:Mc} (h:Gn cd text n D pl b s s1) (h2:Gn cd text n D pl b s1 s2):Gn cd text n D pl b s s2:=by
 obtain ⟨A,a1,a2⟩:=h.new
 obtain ⟨B,b1,b2⟩:=h2.new
 refine ⟨h2.left.trans h.left,⟨A++B,by rw [b1,a1,List.append_assoc],fun u hu=>(List.mem_append.1 hu).elim (a2 u) (b2 u)⟩,fun x hx=>?_⟩
 rcases h2.sn x hx with q | q
 ·exact h.sn x q
 ·exact .inr q
theorem Gn.refl (b:Int) (s:Mc):Gn cd text n D pl b s s:=⟨rfl,⟨[],by simp,fun _ h=>by cases h⟩,fun _ h=>.inl h⟩
theorem follow (hc:Cok cd n D bg) (hs:∀ a,(cd a).kind=3→2≤(cd a).sl) (h60:∀ a,a < n→(cd a).kind=6→a=0):∀ (h:Nat) (t:Thr) (L:List Zt) (s:Mc) (O:Thr→Prop),compF cd text h pl t=some L→okT n D t→(∀ u,O u→compF cd text h pl u=none)→Iv cd text n D pl O s (t.x 0) →
  ∃ s1,(∀ s',GoesP cd n D text pl none s1 s'→GoesP cd n D text pl (some t) s s')∧vl cd text pl s1=L.foldl pick (vl cd text pl s)∧Iv cd text n D pl O s1 (t.x 0)∧Gn cd text n D pl (t.x 0) s s1:=by
 intro h
 induction h with
 | zero=>intro t L s O e;cases e
 | succ h ih=>
  intro t L s O e ht hO iv
  have hat:=compF_at hs _ _ _ _ e
  by_cases hseen:s.sn (seenAt n D pl t)=true
  ·refine ⟨s,fun s' g=>goes_seen hseen g,(fold_cv L fun z hz=>?_).symm,iv,Gn.refl _ _⟩
   rcases iv.cov t ht hseen with q | q
   ·rw [hO t q] at e;cases e
   ·rw [(hat z hz).1];exact q _ _ e z hz
  have hO1:∀ u,O u→compF cd text h pl u=none:=fun u hu=>by
   cases q:compF cd text h pl u with
   | none=>rfl
   | some M=>have:=compF_mono _ _ _ _ q;rw [hO u hu] at this;cases this
  cases hmin:compF cd text h pl t with
  | some L'=>
   have:=compF_det hmin e
   subst this
   exact ih t L' s O hmin ht hO1 iv
  | none=>
   have hk:=(hc.ok t.pc ht.1).1
   generalize e0:({ s with sn:=more s.sn (seenAt n D pl t) }:Mc)=s0
   have a0:s0.ahead=s.ahead:=by rw [←e0]
   have l0:s0.left=s.left:=by rw [←e0]
   have f0:s0.fd=s.fd:=by rw [←e0]
   have b0:s0.best=s.best:=by rw [←e0]
   have n0:s0.sn=more s.sn (seenAt n D pl t):=by rw [←e0]
   have v0:vl cd text pl s0=vl cd text pl s:=by unfold vl bo;rw [a0,f0,b0]
   have hO':∀ u,(O u∨sameC t u)→compF cd text h pl u=none:=by
    rintro u (q | q)
    ·exact hO1 u q
    ·cases q1:compF cd text h pl u with
     | none=>rfl
     | some M=>
      obtain ⟨_,q2,_⟩:=compF_same _ _ _ t _ ⟨q.1.symm,q.2.symm⟩ q1
      rw [hmin] at q2;cases q2
   have iv0:Iv cd text n D pl (fun u=>O u∨sameC t u) s0 (t.x 0):=by
    refine ⟨fun u hu hx=>?_,by rw [f0,b0];exact iv.le,fun x h1 h2=>?_⟩
    ·rw [n0] at hx
     simp only [more,Bool.or_eq_true,beq_iff_eq] at hx
     rcases hx with q | q
     ·rcases iv.cov u hu q with q | q
      ·exact .inl (.inl q)
      ·rw [v0];exact .inr q
     ·exact .inl (.inr (same_of_seen ht hu q.symm))
    ·rw [f0] at h1;rw [b0] at h2
     rw [n0];simp [more,iv.once x h1 h2]
   have shut:∀ s1,Iv cd text n D pl (fun u=>O u∨sameC t u) s1 (t.x 0)→vl cd text pl s1=L.foldl pick (vl cd text pl s)→Iv cd text n D pl O s1 (t.x 0):=by
    intro s1 i1 hv
    refine ⟨fun u hu hx=>?_,i1.le,i1.once⟩
    rcases i1.cov u hu hx with (q | q) | q
    ·exact .inl q
    ·refine .inr fun k M hM z hz=>?_
     obtain ⟨M',q2,q3⟩:=compF_same _ _ _ t _ ⟨q.1.symm,q.2.symm⟩ hM
     have:=compF_det q2 e
     subst this
     have hz1:z 1∈M'.map (· 1):=by rw [q3];exact List.mem_map.2 ⟨z,hz,rfl⟩
     obtain ⟨z',z1,z2⟩:=List.mem_map.1 hz1
     have:=cv_fold M' (vl cd text pl s) z1
     rw [←hv,(hat z' z1).1,z2] at this
     exact this
    ·exact .inr q
   have none_case:L=[]→(stepA cd text pl t s0).1=none→(stepA cd text pl t s0).2=s0→∃ s1,(∀ s',GoesP cd n D text pl none s1 s'→GoesP cd n D text pl (some t) s s')∧vl cd text pl s1=L.foldl pick (vl cd text pl s)∧Iv cd text n D pl O s1 (t.x 0)∧Gn cd text n D pl (t.x 0) s s1:=by
    intro hL q1 q2
    refine ⟨s0,fun s' g=>goes_step hseen (by rw [e0,q1,q2];exact g),by rw [v0,hL];rfl,shut s0 iv0 (by rw [v0,hL];rfl),(Gn.refl _ _).next ht l0 a0 n0⟩
   rw [compF] at e
   by_cases h6:(cd t.pc).kind=6
   ·rw [if_pos h6] at e
    split at e
    ·rename_i hz
     have hz:=And.intro (h60 _ ht.1 h6) hz
     cases e
     have es:stepA cd text pl t s0=(none,{ s0 with fd:=true,best:=nu t.x 1 pl }):=by rw [stepA_eq hk];simp [takesB,eps,epsC,h6]
     have hv:vl cd text pl { s0 with fd:=true,best:=nu t.x 1 pl }=[nu t.x 1 pl].foldl pick (vl cd text pl s):=by
      have p1:some (nu t.x 1 pl)=pick (bo s) (nu t.x 1 pl):=by
       unfold bo
       split
       ·rename_i hf
        obtain ⟨q1,q2⟩:=iv.le hf
        have q3:s.best 1≠pl:=fun q=>hseen (by
         have:=iv.once t.x hf q
         rwa [show seenAt n D pl ⟨0,0,t.x⟩=seenAt n D pl t by unfold seenAt;rw [hz.1,hz.2]] at this)
        unfold pick
        dsimp only
        rw [if_pos]
        simp [nu];omega
       ·rfl
      show (s0.ahead.flatMap (cmp cd text (pl+1))).foldl pick (some (nu t.x 1 pl))=_
      rw [p1,a0,fold_comm]
      ·rfl
      ·intro a ha
       obtain ⟨u,_,ha⟩:=List.mem_flatMap.1 ha
       have:=(cmp_at hs ha).2
       right;simp [nu];omega
     refine ⟨{ s0 with fd:=true,best:=nu t.x 1 pl },fun s' g=>goes_step hseen (by rw [e0,es];exact g),hv,shut _ ⟨fun u hu hx=>?_,fun _=>by simp [nu],fun x _ _=>?_⟩ hv,?_⟩
     ·rcases iv0.cov u hu hx with q | q
      ·exact .inl q
      ·refine .inr fun k M hM z hz=>?_
       rw [hv,←v0];exact (q k M hM z hz).fold _
     ·show s0.sn _=true
      rw [n0,show seenAt n D pl ⟨0,0,x⟩=seenAt n D pl t by unfold seenAt;rw [hz.1,hz.2]]
      simp [more]
     ·exact Gn.next (s0:=s0) ht ⟨rfl,⟨[],by simp,fun _ h=>by cases h⟩,fun _ h=>.inl h⟩ l0 a0 n0
    ·cases e
   ·rw [if_neg h6] at e
    by_cases hz:(cd t.pc).kind=0
    ·rw [if_pos hz] at e
     split at e
     ·rename_i hb
      have es:stepA cd text pl t s0=(none,{ s0 with ahead:=s0.ahead++[behind cd t] }):=by rw [stepA_eq hk];simp [hb,eps,epsC,hz]
      have hv:vl cd text pl { s0 with ahead:=s0.ahead++[behind cd t] }=L.foldl pick (vl cd text pl s):=by
       show ((s0.ahead++[behind cd t]).flatMap (cmp cd text (pl+1))).foldl pick (bo s0)=_
       rw [List.flatMap_append,List.foldl_append,List.flatMap_cons,List.flatMap_nil,List.append_nil,cmp_eq e,←v0];rfl
      refine ⟨_,fun s' g=>goes_step hseen (by rw [e0,es];exact g),hv,shut _ ⟨fun u hu hx=>?_,iv0.le,iv0.once⟩ hv,?_⟩
      ·rcases iv0.cov u hu hx with q | q
       ·exact .inl q
       ·refine .inr fun k M hM z hz=>?_
        rw [hv,←v0];exact (q k M hM z hz).fold _
      ·refine Gn.next (s0:=s0) ht ⟨rfl,⟨[behind cd t],rfl,fun u hu=>?_⟩,fun _ h=>.inl h⟩ l0 a0 n0
       rw [List.mem_singleton.1 hu]
       refine ⟨behind_ok hc ht,rfl,⟨_,_,e⟩,?_⟩
       simp [takesB] at hb
       obtain ⟨h,_⟩:=hb.2
       exact h
     ·rename_i hb
      cases e
      have es:stepA cd text pl t s0=(none,s0):=by rw [stepA_eq hk];simp [hb,eps,epsC,hz]
      exact none_case rfl (by rw [es]) (by rw [es])
    ·rw [if_neg hz] at e
     have es:=step_on (text:=text) (pl:=pl) hz h6 hk s0
     split at e
     ·cases e
     ·rw [epsJ_eq hk] at e
      have ex:∀ c∈epsC cd text pl t.pc t.tk,okT n D ⟨c.1,c.2,noteE cd pl t.pc t.x⟩∧noteE cd pl t.pc t.x 0=t.x 0:=fun c hc'=>
       have hm:(⟨c.1,c.2,noteE cd pl t.pc t.x⟩:Thr)∈eps cd text pl t:=List.mem_map.2 ⟨c,hc',rfl⟩
       ⟨eps_ok hc ht hm,eps_x hc ht hm⟩
      split at e
      ·rename_i hE
       cases e
       have hE':eps cd text pl t=[]:=by unfold eps;rw [hE];rfl
       rw [hE'] at es
       exact none_case rfl (by rw [es];rfl) (by rw [es];simp)
      ·rename_i c hE
       have hE':eps cd text pl t=[⟨c.1,c.2,noteE cd pl t.pc t.x⟩]:=by unfold eps;rw [hE];rfl
       rw [hE'] at es
       have es2:stepA cd text pl t s0=(some ⟨c.1,c.2,noteE cd pl t.pc t.x⟩,s0):=by rw [es];simp
       obtain ⟨k1,k2⟩:=ex c (by rw [hE];simp)
       obtain ⟨s1,g1,v1,i1,n1⟩:=ih _ _ s0 _ e k1 hO' (by show Iv _ _ _ _ _ _ _ (noteE cd pl t.pc t.x 0);rw [k2];exact iv0)
       have i1:Iv cd text n D pl (fun u=>O u∨sameC t u) s1 (noteE cd pl t.pc t.x 0):=i1
       have n1:Gn cd text n D pl (noteE cd pl t.pc t.x 0) s0 s1:=n1
       rw [k2] at i1 n1
       rw [v0] at v1
       exact ⟨s1,fun s' g=>goes_step hseen (by rw [e0,es2];exact g1 s' g),v1,shut s1 i1 v1,n1.next ht l0 a0 n0⟩
      ·rename_i c f l hE
       have:=epsC_two hE
       subst this
       have hE':eps cd text pl t=[⟨c.1,c.2,noteE cd pl t.pc t.x⟩,⟨f.1,f.2,noteE cd pl t.pc t.x⟩]:=by unfold eps;rw [hE];rfl
       rw [hE'] at es
       split at e
       ·rename_i A B eA eB
        cases e
        have es2:stepA cd text pl t s0=(some ⟨c.1,c.2,noteE cd pl t.pc t.x⟩,{ s0 with left:=s0.left++[⟨f.1,f.2,noteE cd pl t.pc t.x⟩] }):=by rw [es];simp
        obtain ⟨k1,k2⟩:=ex c (by rw [hE];simp)
        obtain ⟨k3,_⟩:=ex f (by rw [hE];simp)
        have ivl:Iv cd text n D pl (fun u=>O u∨sameC t u) { s0 with left:=s0.left++[⟨f.1,f.2,noteE cd pl t.pc t.x⟩] } (noteE cd pl t.pc t.x 0):=by
         rw [k2];exact ⟨iv0.cov,iv0.le,iv0.once⟩
        obtain ⟨s1,g1,v1,i1,n1⟩:=ih _ _ _ _ eA k1 hO' ivl
        have i1':Iv cd text n D pl (fun u=>O u∨sameC t u) { s1 with left:=s0.left } (noteE cd pl t.pc t.x 0):=⟨i1.cov,i1.le,i1.once⟩
        obtain ⟨s2,g2,v2,i2,n2⟩:=ih _ _ _ _ eB k3 hO' i1'
        have i2:Iv cd text n D pl (fun u=>O u∨sameC t u) s2 (noteE cd pl t.pc t.x 0):=i2
        have n1:Gn cd text n D pl (noteE cd pl t.pc t.x 0) _ s1:=n1
        have n2:Gn cd text n D pl (noteE cd pl t.pc t.x 0) _ s2:=n2
        rw [k2] at i2 n1 n2
        have hv:vl cd text pl s2=(A++B).foldl pick (vl cd text pl s):=by
         rw [v2,List.foldl_append,←v0]
         exact congrArg (B.foldl pick) v1
        refine ⟨s2,fun s' g=>goes_step hseen (by rw [e0,es2];exact g1 s' (goes_pop (l:=s0.left) n1.left (g2 s' g))),hv,shut s2 i2 hv,Gn.next (s0:=s0) ht ?_ l0 a0 n0⟩
        exact Gn.trans (s1:={ s1 with left:=s0.left }) ⟨rfl,n1.new,n1.sn⟩ n2
       ·cases e
end
section
variable {cd:Nat→In} {text:ByteArray} {n D bg pl:Nat}
theorem driveZ_mono:∀ (k:Nat) (o:Option Thr) (s r:Mc),drive cd n D text pl k o s=some r→drive cd n D text pl (k+1) o s=some r
 | 0,_,_,_,h=>by cases h
 | k+1,some t,s,r,h=>by
  rw [drive] at h ⊢
  split
  ·rw [if_pos (by assumption)] at h;exact driveZ_mono k _ _ _ h
  ·rw [if_neg (by assumption)] at h;exact driveZ_mono k _ _ _ h
 | k+1,none,s,r,h=>by
  rw [drive] at h ⊢
  split
  ·rename_i e;rw [e] at h;exact h
  ·rename_i e;rw [e] at h;exact driveZ_mono k _ _ _ h
theorem goesZ_det {o:Option Thr} {s a b:Mc} (h:GoesP cd n D text pl o s a) (h2:GoesP cd n D text pl o s b):a=b:=by
 obtain ⟨k,hk⟩:=h
 obtain ⟨l,hl⟩:=h2
 have up:∀ {k r} (j:Nat),drive cd n D text pl k o s=some r→drive cd n D text pl (k+j) o s=some r:=fun {k r} j h=>by
  induction j with
  | zero=>exact h
  | succ j ih=>exact driveZ_mono _ _ _ _ ih
 have a1:=up l hk
 have a2:=up k hl
 rw [Nat.add_comm,a1] at a2
 exact Option.some.inj a2
theorem fold_some (l:List Zt) (b:Zt):∃ y,l.foldl pick (some b)=some y:=by
 obtain ⟨y,h,_⟩:=Cvd.fold (a:=some b) (b:=b 0) (e:=b 1) l ⟨b,rfl,by omega⟩
 exact ⟨y,h⟩
theorem sweep_v (hc:Cok cd n D bg) (hs:∀ a,(cd a).kind=3→2≤(cd a).sl) (h60:∀ a,a < n→(cd a).kind=6→a=0):∀ (here:List Thr) (s s':Mc) (b:Int),Sweep cd n D text pl here s s'→s.left=[]→here.Pairwise (fun t u=>t.x 0≤u.x 0)→(∀ t∈here,okT n D t∧Has cd text pl t∧b≤t.x 0)→Iv cd text n D pl (fun _=>False) s b →
  vl cd text pl s'=(here.flatMap (cmp cd text pl)).foldl pick (vl cd text pl s)∧s'.left=[]∧(s'.fd=true→b≤s'.best 0∧s'.best 1≤pl) ∧
  (∃ A,s'.ahead=s.ahead++A∧A.Pairwise (fun t u=>t.x 0≤u.x 0)∧∀ u∈A,okT n D u∧Has cd text (pl+1) u∧pl < text.size∧∃ t∈here,u.x 0=t.x 0)∧(∀ x,s'.sn x=true→s.sn x=true∨∃ u,okT n D u∧x=seenAt n D pl u)
 | [],s,s',b,h,hl,_,_,iv=>by
  cases h
  exact ⟨rfl,hl,iv.le,⟨[],by simp,.nil,fun _ h=>by cases h⟩,fun _ h=>.inl h⟩
 | t::l,s,s',b,h,hl,hp,hh,iv=>by
  rw [List.pairwise_cons] at hp
  rcases h with ⟨h1,h2,rfl⟩ | ⟨h1,s1,g1,g2⟩
  ·refine ⟨(fold_cv _ fun z hz=>Cvd.fold _ ?_).symm,hl,iv.le,⟨[],by simp,.nil,fun _ h=>by cases h⟩,fun _ h=>.inl h⟩
   obtain ⟨u,hu,hz⟩:=List.mem_flatMap.1 hz
   have e:=(cmp_at hs hz).1
   refine ⟨s'.best,by unfold bo;rw [if_pos h1],.inl ?_⟩
   rw [e]
   rcases List.mem_cons.1 hu with rfl | hu
   ·exact h2
   ·have:=hp.1 u hu;omega
  ·obtain ⟨ht,hT,hb⟩:=hh t (by simp)
   obtain ⟨k,ek⟩:=hT.cmp
   have iv1:Iv cd text n D pl (fun _=>False) s (t.x 0):=⟨fun u hu hx=>(iv.cov u hu hx).imp id fun q k M e z hz=>(q k M e z hz).mono hb,fun hf=>⟨by have:¬ s.best 0 < t.x 0:=fun q=>h1 ⟨hf,q⟩;omega,(iv.le hf).2⟩,iv.once⟩
   obtain ⟨s2,c1,c2,c3,c4⟩:=follow hc hs h60 k t _ s _ ek ht (fun _ h=>h.elim) iv1
   have hl2:s2.left=[]:=c4.left.trans hl
   have e12:=goesZ_det g1 (c1 s2 (goes_done hl2))
   subst e12
   obtain ⟨A,a1,a2⟩:=c4.new
   obtain ⟨d1,d2,d3,⟨B,b1,b2,b3⟩,d5⟩:=sweep_v hc hs h60 l s1 s' (t.x 0) g2 hl2 hp.2 (fun u hu=>⟨(hh u (by simp [hu])).1,(hh u (by simp [hu])).2.1,hp.1 u hu⟩) c3
   refine ⟨by rw [d1,c2,List.flatMap_cons,List.foldl_append],d2,fun hf=>⟨by have:=(d3 hf).1;omega,(d3 hf).2⟩,⟨A++B,by rw [b1,a1,List.append_assoc],?_,fun u hu=>?_⟩,fun x hx=>?_⟩
   ·rw [List.pairwise_append]
    refine ⟨List.pairwise_iff_forall_sublist.2 fun {x y} q=>?_,b2,fun u hu v hv=>?_⟩
    ·have q1:=(a2 x (q.subset (by simp))).2.1
     have q2:=(a2 y (q.subset (by simp))).2.1
     omega
    ·obtain ⟨v',q1,q2⟩:=(b3 v hv).2.2.2
     have q3:=(a2 u hu).2.1
     have q4:=hp.1 v' q1
     omega
   ·rcases List.mem_append.1 hu with q | q
    ·obtain ⟨q1,q2,q3,q4⟩:=a2 u q
     exact ⟨q1,q3,q4,t,by simp,q2⟩
    ·obtain ⟨q1,q2,q3,v,q4,q5⟩:=b3 u q
     exact ⟨q1,q2,q3,v,by simp [q4],q5⟩
   ·rcases d5 x hx with q | q
    ·exact c4.sn x q
    ·exact .inr q
noncomputable def firstZ (cd:Nat→In) (text:ByteArray) (bg:Nat):Nat→Nat→Option Zt
 | 0,_=>none
 | k+1,pl=>match (cmp cd text pl ⟨bg,0,nz pl⟩).foldl pick none with
  | some z=>some z
  | none=>firstZ cd text bg k (pl+1)
theorem seen_apart {q pl:Nat} {t u:Thr} (ht:okT n D t) (hu:okT n D u) (h:seenAt n D q t=seenAt n D pl u):q=pl:=by
 rw [seenAt_eq,seenAt_eq] at h
 have b1:t.pc * (D+1)+t.tk < n * (D+1):=by
  have:(t.pc+1) * (D+1)≤n * (D+1):=Nat.mul_le_mul_right _ ht.1
  have:=ht.2
  rw [Nat.add_mul] at *;omega
 have b2:u.pc * (D+1)+u.tk < n * (D+1):=by
  have:(u.pc+1) * (D+1)≤n * (D+1):=Nat.mul_le_mul_right _ hu.1
  have:=hu.2
  rw [Nat.add_mul] at *;omega
 generalize n * (D+1)=N at *
 generalize t.pc * (D+1)+t.tk=a at *
 generalize u.pc * (D+1)+u.tk=b at *
 have e1:(q * N+a) / N=q:=by rw [Nat.mul_comm,Nat.mul_add_div (by omega),Nat.div_eq_of_lt b1];rfl
 have e2:(pl * N+b) / N=pl:=by rw [Nat.mul_comm,Nat.mul_add_div (by omega),Nat.div_eq_of_lt b2];rfl
 rw [←e1,←e2,h]
theorem runs_v (hc:Cok cd n D bg) (hs:∀ a,(cd a).kind=3→2≤(cd a).sl) (h60:∀ a,a < n→(cd a).kind=6→a=0) (hb:∀ a,a≤text.size→Has cd text a ⟨bg,0,nz a⟩):∀ (k pl:Nat) (here:List Thr) (s s':Mc),Runs cd n D text bg k pl here s s'→k+pl=text.size+1→s.left=[]→s.ahead=[]→here.Pairwise (fun t u=>t.x 0≤u.x 0) →
  (∀ t∈here,okT n D t∧Has cd text pl t∧0≤t.x 0∧t.x 0 < pl∧pl≤text.size)→(s.fd=true→0≤s.best 0∧s.best 1 < pl)→(∀ q u,pl≤q→okT n D u→s.sn (seenAt n D q u)=false) →
  bo s'=match (here.flatMap (cmp cd text pl)).foldl pick (bo s) with
   | some z=>some z
   | none=>firstZ cd text bg k pl
 | 0,pl,here,s,s',h,hk,_,_,_,hh,_,_=>by
  cases h
  have e:here=[]:=by
   cases here with
   | nil=>rfl
   | cons t l=>have:=(hh t (by simp)).2.2.2.2;omega
  subst e
  show bo s=match bo s with | some z=>some z | none=>none
  cases bo s <;> rfl
 | k+1,pl,here,s,s',h,hk,hl,ha,hp,hh,hf,hcl=>by
  rcases h with ⟨h1,rfl⟩ | ⟨h1,s1,h2,h3⟩
  ·split at h1
   ·subst h1
    rename_i q
    show _=match bo s' with | some z=>some z | none=>_
    rw [show bo s'=some s'.best by unfold bo;rw [if_pos q]]
   ·simp at h1
  ·have iv:Iv cd text n D pl (fun _=>False) s 0:=⟨fun u hu hx=>(by rw [hcl pl u (Nat.le_refl _) hu] at hx;cases hx),fun q=>⟨(hf q).1,by have:=(hf q).2;omega⟩,fun x q1 q2=>by have:=(hf q1).2;omega⟩
   have nz0:nz pl 0=pl:=by simp [nz]
   have hp':(if s.fd=true then here else here++[⟨bg,0,nz pl⟩]).Pairwise (fun t u=>t.x 0≤u.x 0):=by
    split
    ·exact hp
    ·rw [List.pairwise_append]
     refine ⟨hp,by simp,fun t ht u hu=>?_⟩
     rw [List.mem_singleton.1 hu]
     show _≤nz pl 0
     have:=(hh t ht).2.2.2.1
     omega
   have hh':∀ t∈(if s.fd=true then here else here++[⟨bg,0,nz pl⟩]),okT n D t∧Has cd text pl t∧(0:Int)≤t.x 0∧t.x 0≤pl:=by
    have old:∀ t∈here,okT n D t∧Has cd text pl t∧(0:Int)≤t.x 0∧t.x 0≤pl:=fun t ht=>⟨(hh t ht).1,(hh t ht).2.1,(hh t ht).2.2.1,by have:=(hh t ht).2.2.2.1;omega⟩
    split
    ·exact old
    ·intro t ht
     rcases List.mem_append.1 ht with q | q
     ·exact old t q
     ·rw [List.mem_singleton.1 q]
      exact ⟨⟨hc.bg,Nat.zero_le _⟩,hb pl (by omega),by show 0≤nz pl 0;omega,by show nz pl 0≤_;omega⟩
   obtain ⟨d1,d2,d3,⟨A,b1,b2,b3⟩,d5⟩:=sweep_v hc hs h60 _ s s1 0 h2 hl hp' (fun t ht=>⟨(hh' t ht).1,(hh' t ht).2.1,(hh' t ht).2.2.1⟩) iv
   have eA:s1.ahead=A:=by rw [b1,ha];rfl
   have r:=runs_v hc hs h60 hb k (pl+1) s1.ahead _ s' h3 (by omega) d2 rfl (by rw [eA];exact b2) (fun u hu=>by
     rw [eA] at hu
     obtain ⟨q1,q2,q3,t,q4,q5⟩:=b3 u hu
     have:=hh' t q4
     exact ⟨q1,q2,by omega,by omega,by omega⟩) (fun q=>⟨(d3 q).1,by have:=(d3 q).2;show s1.best 1 < _;omega⟩) (fun q u hq hu=>by
     cases e:s1.sn (seenAt n D q u) with
     | false=>rfl
     | true=>
      rcases d5 _ e with q1 | ⟨u',q1,q2⟩
      ·rw [hcl q u (by omega) hu] at q1;cases q1
      ·have:=seen_apart hu q1 q2;omega)
   have ev:vl cd text pl s=bo s:=by unfold vl;rw [ha];rfl
   rw [ev] at d1
   have r:bo s'=match vl cd text pl s1 with | some z=>some z | none=>firstZ cd text bg k (pl+1):=r
   rw [d1] at r
   rw [r]
   by_cases q:s.fd=true
   ·rw [if_pos q]
    have:bo s=some s.best:=by unfold bo;rw [if_pos q]
    rw [this]
    obtain ⟨y,hy⟩:=fold_some (here.flatMap (cmp cd text pl)) s.best
    rw [hy]
   ·rw [if_neg q]
    have:bo s=none:=by unfold bo;rw [if_neg q]
    rw [this,List.flatMap_append,List.foldl_append,List.flatMap_cons,List.flatMap_nil,List.append_nil]
    cases e:(here.flatMap (cmp cd text pl)).foldl pick none with
    | none=>rw [firstZ]
    | some z=>
     rw [fold_cv]
     intro y hy
     have y0:=(cmp_at hs hy).1
     -- z is one of those
     have hz:∀ (l:List Zt) (o:Option Zt),l.foldl pick o=some z→o=some z∨z∈l:=by
      intro l
      induction l with
      | nil=>intro o h;exact .inl h
      | cons c l ih=>
       intro o h
       rcases ih _ h with q | q
       ·cases o with
        | none=>cases q;exact .inr (by simp)
        | some b=>
         unfold pick at q
         dsimp only at q
         split at q
         ·cases q;exact .inr (by simp)
         ·exact .inl q
       ·exact .inr (by simp [q])
     rcases hz _ _ e with q | q
     ·cases q
     ·obtain ⟨u,hu,hz⟩:=List.mem_flatMap.1 q
      have:=(cmp_at hs hz).1
      have:=(hh u hu).2.2.2.1
      refine ⟨z,rfl,.inl ?_⟩
      rw [y0];show _ < nz pl 0
      omega
end
abbrev Wt:=Nat→(Nat→Int)→List (Nat×(Nat→Int))
def wId:Wt:=fun i x=>[(i,x)]
def wSeq (A B:Wt):Wt:=fun i x=>(A i x).flatMap fun p=>B p.1 p.2
def wOr (A B:Wt):Wt:=fun i x=>A i x++B i x
def wOne (text:ByteArray) (m:Nat→Bool):Wt:=fun i x=>if h:i < text.size then (if m (text[i]'h).toNat=true then [(i+1,x)] else []) else []
def wEdge (text:ByteArray) (k:Nat):Wt:=fun i x=>if (k=1∧i=0)∨(k=2∧i=text.size) then [(i,x)] else []
def wGroup (g:Nat) (A:Wt):Wt:=fun i x=>(A i (nu x (2 * g) i)).map fun p=>(p.1,nu p.2 (2 * g+1) p.1)
def wRow:List Wt→Wt
 | []=>wId
 | a::l=>wSeq (wRow l) a
def wBr:List Wt→Wt→Wt
 | [],B=>B
 | a::l,B=>wBr l (wOr a B)
def wBranches:List Wt→Wt
 | []=>wId
 | a::l=>wBr l a
def wTimes (A:Wt):Nat→Wt
 | 0=>wId
 | k+1=>wSeq (wTimes A k) A
def wUp (A:Wt):Nat→Wt→Wt
 | 0,B=>B
 | k+1,B=>wUp A k (wOr (wSeq A B) wId)
def wTurns (A:Wt):Nat→Wt
 | 0,i,x=>[(i,x)]
 | k+1,i,x=>((A i x).filter fun p=>decide (p.1≠i)).flatMap (fun p=>wTurns A k p.1 p.2)++[(i,x)]
def wRep (text:ByteArray) (A:Wt) (least:Nat):Option Nat→Wt
 | some most=>wSeq (wTimes A least) (wUp A (most - least) wId)
 | none=>wSeq (wTimes A least) fun i x=>wTurns A (text.size - i) i x
def Mno (text:ByteArray) (A:Wt):Prop:=∀ i x p,i≤text.size→p∈A i x→i≤p.1∧p.1≤text.size
def tkO (i tk d j:Nat):Nat:=if j=i then tk else d
def GoC (cd:Nat→In) (text:ByteArray) (bg next d:Nat) (A:Wt):Prop:=∀ i tk x,i≤text.size→tk≤d→(∀ p∈A i x,Has cd text p.1 ⟨next,tkO i tk d p.1,p.2⟩) →
 Has cd text i ⟨bg,tk,x⟩∧cmp cd text i ⟨bg,tk,x⟩=(A i x).flatMap fun p=>cmp cd text p.1 ⟨next,tkO i tk d p.1,p.2⟩
theorem flatMap_same {α β:Type} {f g:α→List β}:∀ {l:List α},(∀ a∈l,f a=g a)→l.flatMap f=l.flatMap g
 | [],_=>rfl
 | a::l,h=>by rw [List.flatMap_cons,List.flatMap_cons,h a (by simp),flatMap_same fun b hb=>h b (by simp [hb])]
section
variable {cd:Nat→In} {text:ByteArray} {n d i next b c:Nat} {t:Thr} {A B:Wt}
theorem has_eq {h:Nat} {L:List Zt} (e:compF cd text h i t=some L):Has cd text i t∧cmp cd text i t=L:=⟨⟨h,L,e⟩,cmp_eq e⟩
theorem cmp_byte (hk:(cd t.pc).kind=0) (hb:takesB cd text i t=true) (h:Has cd text (i+1) (behind cd t)):Has cd text i t∧cmp cd text i t=cmp cd text (i+1) (behind cd t):=by
 obtain ⟨k,e⟩:=h.cmp
 refine has_eq (h:=k+1) ?_
 rw [compF,if_neg (by omega),if_pos hk,if_pos hb];exact e
theorem cmp_stop (hk:(cd t.pc).kind=0) (hb:takesB cd text i t=false):Has cd text i t∧cmp cd text i t=[]:=by
 refine has_eq (h:=1) ?_
 rw [compF,if_neg (by omega),if_pos hk,if_neg (by simp [hb])]
theorem cmp_nil (h0:(cd t.pc).kind≠0) (h6:(cd t.pc).kind≠6) (h5:(cd t.pc).kind=5→t.tk≤(cd t.pc).dp+1) (he:epsJ cd text i t.pc t.tk=[]):Has cd text i t∧cmp cd text i t=[]:=by
 refine has_eq (h:=1) ?_
 rw [compF,if_neg h6,if_neg h0,if_neg (fun q=>by have:=h5 q.1;omega),he]
theorem cmp_one {c:Nat×Nat} (h0:(cd t.pc).kind≠0) (h6:(cd t.pc).kind≠6) (h5:(cd t.pc).kind=5→t.tk≤(cd t.pc).dp+1) (he:epsJ cd text i t.pc t.tk=[c]) (h:Has cd text i ⟨c.1,c.2,noteE cd i t.pc t.x⟩):Has cd text i t∧cmp cd text i t=cmp cd text i ⟨c.1,c.2,noteE cd i t.pc t.x⟩:=by
 obtain ⟨k,e⟩:=h.cmp
 refine has_eq (h:=k+1) ?_
 rw [compF,if_neg h6,if_neg h0,if_neg (fun q=>by have:=h5 q.1;omega),he];exact e
theorem cmp_two {c e:Nat×Nat} (h0:(cd t.pc).kind≠0) (h6:(cd t.pc).kind≠6) (h5:(cd t.pc).kind=5→t.tk≤(cd t.pc).dp+1) (he:epsJ cd text i t.pc t.tk=[c,e]) (h:Has cd text i ⟨c.1,c.2,noteE cd i t.pc t.x⟩) (h':Has cd text i ⟨e.1,e.2,noteE cd i t.pc t.x⟩) :
  Has cd text i t∧cmp cd text i t=cmp cd text i ⟨c.1,c.2,noteE cd i t.pc t.x⟩++cmp cd text i ⟨e.1,e.2,noteE cd i t.pc t.x⟩:=by
 obtain ⟨k,e1⟩:=h.cmp
 obtain ⟨l,e2⟩:=h'.cmp
 refine has_eq (h:=max k l+1) ?_
 rw [compF,if_neg h6,if_neg h0,if_neg (fun q=>by have:=h5 q.1;omega),he]
 dsimp only
 rw [compF_le e1 (Nat.le_max_left k l),compF_le e2 (Nat.le_max_right k l)]
theorem GoC.id:GoC cd text next next d wId:=fun i tk x _ _ h=>by
 have:=h (i,x) (by simp [wId])
 simp only [tkO,if_pos] at this
 exact ⟨this,by simp [wId,tkO]⟩
theorem tkO_seq {i j k tk d:Nat} (h1:i≤j) (h2:j≤k):tkO j (tkO i tk d j) d k=tkO i tk d k:=by
 unfold tkO
 repeat' split
 all_goals first | rfl | omega
theorem tkO_le {i j tk d:Nat} (h:tk≤d):tkO i tk d j≤d:=by unfold tkO;split <;> omega
theorem Mno.id:Mno text wId:=fun i x p hi hp=>by rw [List.mem_singleton.1 hp];exact ⟨Nat.le_refl _,hi⟩
theorem Mno.seq (hA:Mno text A) (hB:Mno text B):Mno text (wSeq A B):=fun i x p hi hp=>by
 obtain ⟨q,h1,h2⟩:=List.mem_flatMap.1 hp
 have a:=hA i x q hi h1
 have b:=hB _ _ p a.2 h2
 omega
theorem Mno.or (hA:Mno text A) (hB:Mno text B):Mno text (wOr A B):=fun i x p hi hp=>(List.mem_append.1 hp).elim (hA i x p hi) (hB i x p hi)
theorem GoC.seq (h:GoC cd text b c d A) (h2:GoC cd text c next d B) (hA:Mno text A) (hB:Mno text B):GoC cd text b next d (wSeq A B):=fun i tk x hi ht hh=>by
 have inner:∀ p∈A i x,Has cd text p.1 ⟨c,tkO i tk d p.1,p.2⟩∧cmp cd text p.1 ⟨c,tkO i tk d p.1,p.2⟩=(B p.1 p.2).flatMap fun q=>cmp cd text q.1 ⟨next,tkO i tk d q.1,q.2⟩:=fun p hp=>by
  have a:=hA i x p hi hp
  have e:∀ q∈B p.1 p.2,tkO p.1 (tkO i tk d p.1) d q.1=tkO i tk d q.1:=fun q hq=>tkO_seq a.1 (hB _ _ q a.2 hq).1
  obtain ⟨r1,r2⟩:=h2 p.1 (tkO i tk d p.1) p.2 a.2 (tkO_le ht) (fun q hq=>by rw [e q hq];exact hh q (List.mem_flatMap.2 ⟨p,hp,hq⟩))
  refine ⟨r1,r2.trans ?_⟩
  exact flatMap_same fun q hq=>by rw [e q hq]
 obtain ⟨r1,r2⟩:=h i tk x hi ht (fun p hp=>(inner p hp).1)
 refine ⟨r1,r2.trans ?_⟩
 rw [wSeq,List.flatMap_assoc]
 exact flatMap_same fun p hp=>(inner p hp).2
theorem GoC.or (hc:cd n=noIn 4 b c 0 0) (h:GoC cd text b next d A) (h2:GoC cd text c next d B):GoC cd text n next d (wOr A B):=fun i tk x hi ht hh=>by
 obtain ⟨a1,a2⟩:=h i tk x hi ht (fun p hp=>hh p (List.mem_append.2 (.inl hp)))
 obtain ⟨b1,b2⟩:=h2 i tk x hi ht (fun p hp=>hh p (List.mem_append.2 (.inr hp)))
 obtain ⟨r1,r2⟩:=cmp_two (cd:=cd) (t:=⟨n,tk,x⟩) (i:=i) (c:=(b,tk)) (e:=(c,tk)) (text:=text) (by simp [hc]) (by simp [hc]) (by simp [hc]) (by simp [epsJ,epsC,hc]) (by simpa [noteE,hc] using a1) (by simpa [noteE,hc] using b1)
 refine ⟨r1,r2.trans ?_⟩
 rw [wOr,List.flatMap_append,←a2,←b2]
 simp [noteE,hc]
structure Sw (text:ByteArray) (len:Nat) (em:Em) (A:Wt):Prop where
 lens:∀ n next d,(em n next d).1.length=len
 mn:Mno text A
 goes:∀ cd n next d,AtC cd n (em n next d).1→GoC cd text (em n next d).2 next d A
theorem sw_one (m:Nat→Bool):Sw text 1 (emOne m) (wOne text m):=by
 refine ⟨fun _ _ _=>rfl,fun i x p hi hp=>?_,fun cd n next d hc=>?_⟩
 ·unfold wOne at hp
  split at hp
  ·split at hp
   ·rw [List.mem_singleton.1 hp];exact ⟨by simp,by omega⟩
   ·cases hp
  ·cases hp
 ·have h0:cd n=⟨0,next,0,0,d,m⟩:=hc.head
  intro i tk x hi ht hh
  show Has cd text i ⟨n,tk,x⟩∧cmp cd text i ⟨n,tk,x⟩=_
  by_cases q:∃ h:i < text.size,m (text[i]'h).toNat=true
  ·obtain ⟨q1,q2⟩:=q
   have e:wOne text m i x=[(i+1,x)]:=by simp [wOne,q1,q2]
   have hn:=hh (i+1,x) (by rw [e];simp)
   have hb:behind cd ⟨n,tk,x⟩=⟨next,tkO i tk d (i+1),x⟩:=by simp [behind,h0,tkO]
   obtain ⟨r1,r2⟩:=cmp_byte (cd:=cd) (t:=⟨n,tk,x⟩) (i:=i) (text:=text) (by simp [h0]) (by simp [takesB,h0,q1,q2]) (by rw [hb];exact hn)
   exact ⟨r1,by rw [r2,e,hb];simp⟩
  ·have e:wOne text m i x=[]:=by
    unfold wOne
    split
    ·rename_i q1;rw [if_neg (fun q2=>q ⟨q1,q2⟩)]
    ·rfl
   obtain ⟨r1,r2⟩:=cmp_stop (cd:=cd) (t:=⟨n,tk,x⟩) (i:=i) (text:=text) (by simp [h0]) (by
    unfold takesB
    split
    ·rename_i q1;simp [h0];exact Bool.eq_false_iff.2 fun q2=>q ⟨q1,q2⟩
    ·simp)
   exact ⟨r1,by rw [r2,e];rfl⟩
theorem sw_edge (k:Nat) (hk:k=1∨k=2):Sw text 1 (emEdge k) (wEdge text k):=by
 refine ⟨fun _ _ _=>rfl,fun i x p hi hp=>?_,fun cd n next d hc=>?_⟩
 ·unfold wEdge at hp
  split at hp
  ·rw [List.mem_singleton.1 hp];exact ⟨by simp,hi⟩
  ·cases hp
 ·have h0:cd n=noIn k next 0 0 0:=hc.head
  intro i tk x hi ht hh
  show Has cd text i ⟨n,tk,x⟩∧cmp cd text i ⟨n,tk,x⟩=_
  have k0:(cd n).kind≠0:=by rw [h0];show k≠0;omega
  have k6:(cd n).kind≠6:=by rw [h0];show k≠6;omega
  have k5:(cd n).kind=5→tk≤(cd n).dp+1:=fun q=>by rw [h0] at q;have q:k=5:=q;omega
  by_cases q:(k=1∧i=0)∨(k=2∧i=text.size)
  ·have e:wEdge text k i x=[(i,x)]:=by unfold wEdge;rw [if_pos q]
   have hn:=hh (i,x) (by rw [e];simp)
   have hN:noteE cd i n x=x:=by unfold noteE;rw [h0,if_neg (show ¬ k=3 by omega)]
   have hE:epsJ cd text i n tk=[(next,tk)]:=by
    unfold epsJ epsC
    rcases q with ⟨rfl,q⟩ | ⟨rfl,q⟩ <;> simp [h0,q]
   obtain ⟨r1,r2⟩:=cmp_one (cd:=cd) (t:=⟨n,tk,x⟩) (i:=i) (text:=text) k0 k6 k5 hE (by simpa [hN,tkO] using hn)
   exact ⟨r1,by rw [r2,e];simp [hN,tkO]⟩
  ·have e:wEdge text k i x=[]:=by unfold wEdge;rw [if_neg q]
   have hE:epsJ cd text i n tk=[]:=by
    unfold epsJ epsC
    rcases hk with rfl | rfl
    ·simp [h0];simpa using q
    ·simp [h0];simpa using q
   obtain ⟨r1,r2⟩:=cmp_nil (cd:=cd) (t:=⟨n,tk,x⟩) (i:=i) (text:=text) k0 k6 k5 hE
   exact ⟨r1,by rw [r2,e];rfl⟩
theorem go_note {sl:Nat} (hc:cd n=noIn 3 next 0 sl 0):GoC cd text n next d (fun i x=>[(i,nu x sl i)]):=fun i tk x hi ht hh=>by
 have hn:=hh (i,nu x sl i) (by simp)
 have hN:noteE cd i n x=nu x sl i:=by unfold noteE;rw [hc,if_pos rfl]
 obtain ⟨r1,r2⟩:=cmp_one (cd:=cd) (t:=⟨n,tk,x⟩) (i:=i) (text:=text) (c:=(next,tk)) (by simp [hc]) (by simp [hc]) (by simp [hc]) (by simp [epsJ,epsC,hc]) (by simpa [hN,tkO] using hn)
 exact ⟨r1,by rw [r2];simp [hN,tkO]⟩
theorem mn_note (f:Nat→(Nat→Int)→Nat→Int):Mno text (fun i x=>[(i,f i x)]):=fun i x p hi hp=>by
 rw [List.mem_singleton.1 hp];exact ⟨Nat.le_refl _,hi⟩
theorem wGroup_eq (g:Nat) (A:Wt):wGroup g A=wSeq (fun i x=>[(i,nu x (2 * g) i)]) (wSeq A fun i x=>[(i,nu x (2 * g+1) i)]):=by
 funext i x
 simp [wGroup,wSeq,List.map_eq_flatMap]
theorem sw_group {len g:Nat} {em:Em} (h:Sw text len em A):Sw text (len+2) (emGroup g len em) (wGroup g A):=by
 refine ⟨fun n next d=>?_,?_,fun cd n next d hc=>?_⟩
 ·show ((_::(_++[_])):List In).length=len+2
  rw [List.length_cons,List.length_append,h.lens];rfl
 ·rw [wGroup_eq];exact (mn_note fun i x=>nu x (2 * g) i).seq (h.mn.seq (mn_note fun i x=>nu x (2 * g+1) i))
 ·have hc':AtC cd n (noIn 3 next 0 (2 * g+1) 0::((em (n+1) n d).1++[noIn 3 (em (n+1) n d).2 0 (2 * g) 0])):=hc
  have c2:=h.goes cd (n+1) n d hc'.tail.left
  have c3:cd (n+1+len)=noIn 3 (em (n+1) n d).2 0 (2 * g) 0:=(hc'.tail.right (h.lens _ _ _)).head
  rw [wGroup_eq]
  exact (go_note c3).seq (c2.seq (go_note hc'.head) h.mn (mn_note fun i x=>nu x (2 * g+1) i)) (mn_note fun i x=>nu x (2 * g) i) (h.mn.seq (mn_note fun i x=>nu x (2 * g+1) i))
theorem sw_row:∀ l:List (It×Wt),(∀ p∈l,Sw text p.1.len p.1.em p.2)→Sw text (lenL (l.map (·.1))) (emRow (l.map (·.1))) (wRow (l.map (·.2)))
 | [],_=>⟨fun _ _ _=>rfl,Mno.id,fun cd n next d _=>GoC.id⟩
 | p::l,h=>by
  have hp:=h p (by simp)
  have ih:=sw_row l (fun q hq=>h q (by simp [hq]))
  refine ⟨fun n next d=>?_,ih.mn.seq hp.mn,fun cd n next d hc=>?_⟩
  ·show ((p.1.em n next d).1++_).length=p.1.len+lenL (l.map (·.1))
   rw [List.length_append,hp.lens,ih.lens]
  ·have hc':AtC cd n ((p.1.em n next d).1++(emRow (l.map (·.1)) (n+p.1.len) (p.1.em n next d).2 d).1):=hc
   exact (ih.goes cd _ _ d (hc'.right (hp.lens _ _ _))).seq (hp.goes cd n next d hc'.left) ih.mn hp.mn
theorem moreW_goes:∀ l:List (It×Wt),(∀ p∈l,Sw text p.1.len p.1.em p.2)→∀ (cd:Nat→In) (b n next d:Nat) (B:Wt),GoC cd text b next d B→AtC cd n (emMoreB (l.map (·.1)) b n next d).1→GoC cd text (emMoreB (l.map (·.1)) b n next d).2 next d (wBr (l.map (·.2)) B)
 | [],_,cd,b,n,next,d,B,hb,_=>hb
 | p::l,h,cd,b,n,next,d,B,hb,hc=>by
  have hp:=h p (by simp)
  have hc':AtC cd n ((p.1.em n next d).1++(noIn 4 (p.1.em n next d).2 b 0 0::(emMoreB (l.map (·.1)) (n+p.1.len) (n+p.1.len+1) next d).1)):=hc
  have c2:=hc'.right (hp.lens _ _ _)
  exact moreW_goes l (fun q hq=>h q (by simp [hq])) cd (n+p.1.len) (n+p.1.len+1) next d (wOr p.2 B) (GoC.or c2.head (hp.goes cd n next d hc'.left) hb) c2.tail
theorem moreW_mn:∀ (l:List Wt) (B:Wt),(∀ p∈l,Mno text p)→Mno text B→Mno text (wBr l B)
 | [],_,_,hb=>hb
 | a::l,B,h,hb=>moreW_mn l _ (fun p hp=>h p (by simp [hp])) ((h a (by simp)).or hb)
theorem moreW_len:∀ l:List (It×Wt),(∀ p∈l,Sw text p.1.len p.1.em p.2)→∀ b n next d,(emMoreB (l.map (·.1)) b n next d).1.length=lenL (l.map (·.1))+l.length
 | [],_,_,_,_,_=>rfl
 | p::l,h,b,n,next,d=>by
  show ((p.1.em n next d).1++(_::_)).length=p.1.len+lenL (l.map (·.1))+(l.length+1)
  rw [List.length_append,List.length_cons,(h p (by simp)).lens,moreW_len l (fun q hq=>h q (by simp [hq]))];omega
theorem sw_branches (p:It×Wt) (l:List (It×Wt)) (h:∀ q∈p::l,Sw text q.1.len q.1.em q.2):Sw text (lenL ((p::l).map (·.1))+l.length) (emBranches ((p::l).map (·.1))) (wBranches ((p::l).map (·.2))):=by
 have hp:=h p (by simp)
 have hl:∀ q∈l,Sw text q.1.len q.1.em q.2:=fun q hq=>h q (by simp [hq])
 refine ⟨fun n next d=>?_,moreW_mn _ _ (fun q hq=>?_) hp.mn,fun cd n next d hc=>?_⟩
 ·show ((p.1.em n next d).1++_).length=p.1.len+lenL (l.map (·.1))+l.length
  rw [List.length_append,hp.lens,moreW_len l hl];omega
 ·obtain ⟨q',q1,rfl⟩:=List.mem_map.1 hq;exact (hl q' q1).mn
 ·have hc':AtC cd n ((p.1.em n next d).1++(emMoreB (l.map (·.1)) (p.1.em n next d).2 (n+p.1.len) next d).1):=hc
  exact moreW_goes l hl cd _ _ next d p.2 (hp.goes cd n next d hc'.left) (hc'.right (hp.lens _ _ _))
section
variable {len:Nat} {em:Em}
theorem timesW (h:Sw text len em A):∀ k,Mno text (wTimes A k)∧(∀ n next d,(emTimes len em k n next d).1.length=k * len)∧∀ cd n next d,AtC cd n (emTimes len em k n next d).1→GoC cd text (emTimes len em k n next d).2 next d (wTimes A k)
 | 0=>⟨Mno.id,fun _ _ _=>by simp [emTimes],fun _ _ _ _ _=>GoC.id⟩
 | k+1=>by
  obtain ⟨i1,i2,i3⟩:=timesW h k
  refine ⟨i1.seq h.mn,fun n next d=>?_,fun cd n next d hc=>?_⟩
  ·rw [emTimes,List.length_append,h.lens,i2,Nat.add_mul];omega
  ·have hc':AtC cd n ((em n next d).1++(emTimes len em k (n+len) (em n next d).2 d).1):=hc
   exact (i3 cd _ _ d (hc'.right (h.lens _ _ _))).seq (h.goes cd n next d hc'.left) i1 h.mn
theorem upW (h:Sw text len em A):∀ k (B:Wt),Mno text B→Mno text (wUp A k B)∧(∀ b n next d,(emUpTo len em k b n next d).1.length=k * (len+1))∧∀ cd b n next d,GoC cd text b next d B→AtC cd n (emUpTo len em k b n next d).1→GoC cd text (emUpTo len em k b n next d).2 next d (wUp A k B)
 | 0,B,hB=>⟨hB,fun _ _ _ _=>by simp [emUpTo],fun _ _ _ _ _ hb _=>hb⟩
 | k+1,B,hB=>by
  obtain ⟨i1,i2,i3⟩:=upW h k (wOr (wSeq A B) wId) ((h.mn.seq hB).or Mno.id)
  refine ⟨i1,fun b n next d=>?_,fun cd b n next d hb hc=>?_⟩
  ·rw [emUpTo,List.length_append,List.length_cons,h.lens,i2,Nat.add_mul];omega
  ·have hc':AtC cd n ((em n b d).1++(noIn 4 (em n b d).2 next 0 0::(emUpTo len em k (n+len) (n+len+1) next d).1)):=hc
   have c2:=hc'.right (h.lens _ _ _)
   exact i3 cd _ _ next d (GoC.or c2.head ((h.goes cd n b d hc'.left).seq hb h.mn hB) GoC.id) c2.tail
theorem mn_turns (hA:Mno text A):∀ k,Mno text (wTurns A k)
 | 0=>Mno.id
 | k+1=>fun i x p hi hp=>by
  rcases List.mem_append.1 hp with q | q
  ·obtain ⟨r,h1,h2⟩:=List.mem_flatMap.1 q
   have a:=hA i x r hi (List.mem_filter.1 h1).1
   have b:=mn_turns hA k _ _ p a.2 h2
   omega
  ·rw [List.mem_singleton.1 q];exact ⟨Nat.le_refl _,hi⟩
theorem turns_any (hA:Mno text A):∀ m i x k k',i≤text.size→text.size - i≤m→text.size - i≤k→text.size - i≤k'→wTurns A k i x=wTurns A k' i x:=by
 intro m
 induction m with
 | zero=>
  intro i x k k' hi hm _ _
  have e:∀ k,wTurns A k i x=[(i,x)]:=fun k=>by
   cases k with
   | zero=>rfl
   | succ k=>
    rw [wTurns,List.filter_eq_nil_iff.2 fun p hp=>?_]
    ·rfl
    ·have:=hA i x p hi hp
     simp;omega
  rw [e,e]
 | succ m ih=>
  intro i x k k' hi hm hk hk'
  by_cases e:text.size - i≤m
  ·exact ih i x k k' hi e hk hk'
  ·obtain ⟨k,rfl⟩:∃ j,k=j+1:=⟨k - 1,by omega⟩
   obtain ⟨k',rfl⟩:∃ j,k'=j+1:=⟨k' - 1,by omega⟩
   rw [wTurns,wTurns,flatMap_same]
   intro p hp
   obtain ⟨p1,p2⟩:=List.mem_filter.1 hp
   have a:=hA i x p hi p1
   have p2:p.1≠i:=by simpa using p2
   exact ih _ _ _ _ a.2 (by omega) (by omega) (by omega)
def wStar (text:ByteArray) (A:Wt):Wt:=fun i x=>wTurns A (text.size - i) i x
theorem star_eq (hA:Mno text A) {i:Nat} (x:Nat→Int) (hi:i≤text.size):wStar text A i x=((A i x).filter fun p=>decide (p.1≠i)).flatMap (fun p=>wStar text A p.1 p.2)++[(i,x)]:=by
 unfold wStar
 rw [turns_any hA (text.size - i) i x _ (text.size - i+1) hi (Nat.le_refl _) (Nat.le_refl _) (by omega),wTurns,flatMap_same]
 intro p hp
 obtain ⟨p1,p2⟩:=List.mem_filter.1 hp
 have a:=hA i x p hi p1
 have p2:p.1≠i:=by simpa using p2
 exact turns_any hA (text.size - p.1) _ _ _ _ a.2 (Nat.le_refl _) (by omega) (by omega)
theorem mn_star (hA:Mno text A):Mno text (wStar text A):=fun i x p hi hp=>mn_turns hA _ i x p hi hp
theorem star_go {cd:Nat→In} {hd tn bd next d:Nat} (hA:Mno text A) (c1:cd hd=noIn 4 bd next 0 0) (c2:cd tn=noIn 5 hd 0 0 d) (c3:GoC cd text bd tn (d+1) A):GoC cd text hd next d (wStar text A):=by
 have main:∀ m i tk x,i≤text.size→text.size - i≤m→tk≤d→(∀ p∈wStar text A i x,Has cd text p.1 ⟨next,tkO i tk d p.1,p.2⟩) →
   Has cd text i ⟨hd,tk,x⟩∧cmp cd text i ⟨hd,tk,x⟩=(wStar text A i x).flatMap fun p=>cmp cd text p.1 ⟨next,tkO i tk d p.1,p.2⟩:=by
  intro m
  induction m with
  | zero=>?_
  | succ m ih=>?_
  all_goals
   intro i tk x hi hm ht hh
   rw [star_eq hA x hi] at hh ⊢
   -- behind the body
   have turn:∀ p∈A i x,Has cd text p.1 ⟨tn,tkO i tk (d+1) p.1,p.2⟩∧cmp cd text p.1 ⟨tn,tkO i tk (d+1) p.1,p.2⟩=if p.1≠i then (wStar text A p.1 p.2).flatMap (fun q=>cmp cd text q.1 ⟨next,tkO i tk d q.1,q.2⟩) else []:=by
    intro p hp
    have a:=hA i x p hi hp
    by_cases e:p.1=i
    ·rw [if_neg (by simpa using e)]
     refine cmp_nil (cd:=cd) (t:=⟨tn,tkO i tk (d+1) p.1,p.2⟩) (by simp [c2]) (by simp [c2]) (fun _=>?_) ?_
     ·show tkO i tk (d+1) p.1≤_
      unfold tkO;rw [if_pos e,c2];show tk≤d+1;omega
     ·simp only [epsJ,epsC,c2,tkO,if_pos e];simp;omega
    ·rw [if_pos e]
     try omega
     all_goals
      have et:∀ q∈wStar text A p.1 p.2,tkO p.1 d d q.1=tkO i tk d q.1:=fun q hq=>by
       have:=(mn_star hA _ _ q a.2 hq).1
       unfold tkO;rw [if_neg (show ¬ q.1=i by omega)];split <;> rfl
      obtain ⟨r1,r2⟩:=ih p.1 d p.2 a.2 (by omega) (Nat.le_refl _) (fun q hq=>by
       rw [et q hq]
       exact hh q (List.mem_append.2 (.inl (List.mem_flatMap.2 ⟨p,List.mem_filter.2 ⟨hp,by simpa using e⟩,hq⟩))))
      obtain ⟨s1,s2⟩:=cmp_one (cd:=cd) (t:=⟨tn,tkO i tk (d+1) p.1,p.2⟩) (i:=p.1) (text:=text) (c:=(hd,d)) (by simp [c2]) (by simp [c2]) (fun _=>by show tkO i tk (d+1) p.1≤_;unfold tkO;rw [if_neg e,c2];exact Nat.le_refl _)
       (by simp only [epsJ,epsC,c2,tkO,if_neg e];simp) (by simpa [noteE,c2] using r1)
      refine ⟨s1,s2.trans ?_⟩
      rw [show noteE cd p.1 tn p.2=p.2 by simp [noteE,c2]]
      rw [r2,flatMap_same fun q hq=>by rw [et q hq]]
   obtain ⟨b1,b2⟩:=c3 i tk x hi (by omega) (fun p hp=>(turn p hp).1)
   have hn:Has cd text i ⟨next,tk,x⟩:=by
    have:=hh (i,x) (List.mem_append.2 (.inr (by simp)))
    simpa [tkO] using this
   obtain ⟨r1,r2⟩:=cmp_two (cd:=cd) (t:=⟨hd,tk,x⟩) (i:=i) (text:=text) (c:=(bd,tk)) (e:=(next,tk)) (by simp [c1]) (by simp [c1]) (by simp [c1]) (by simp [epsJ,epsC,c1]) (by simpa [noteE,c1] using b1) (by simpa [noteE,c1] using hn)
   refine ⟨r1,r2.trans ?_⟩
   rw [show noteE cd i hd x=x by simp [noteE,c1],b2,List.flatMap_append,List.flatMap_assoc]
   congr 1
   ·rw [flatMap_same fun p hp=>(turn p hp).2]
    clear hh turn b1 b2 hn r1 r2
    induction A i x with
    | nil=>rfl
    | cons p l il=>
     rw [List.flatMap_cons,List.filter_cons,il]
     by_cases e:p.1=i
     ·simp [e]
     ·simp [e]
   ·simp [tkO]
 exact fun i tk x hi ht hh=>main _ i tk x hi (Nat.le_refl _) ht hh
theorem starW (h:Sw text len em A) {cd:Nat→In} {n next d:Nat} (hc:AtC cd n (emTurns em n next d).1):GoC cd text n next d (wStar text A):=by
 have hc':AtC cd n (noIn 4 (em (n+2) (n+1) (d+1)).2 next 0 0::noIn 5 n 0 0 d::(em (n+2) (n+1) (d+1)).1):=hc
 exact star_go h.mn hc'.head hc'.tail.head (h.goes cd (n+2) (n+1) (d+1) hc'.tail.tail)
theorem sw_rep (h:Sw text len em A) (least:Nat) (most:Option Nat):Sw text (match most with | some m=>(m - least) * (len+1)+least * len | none=>len+2+least * len) (emRep len em least most) (wRep text A least most):=by
 obtain ⟨t1,t2,t3⟩:=timesW h least
 cases most with
 | some m=>
  obtain ⟨u1,u2,u3⟩:=upW h (m - least) wId Mno.id
  refine ⟨fun n next d=>?_,t1.seq u1,fun cd n next d hc=>?_⟩
  ·show ((emUpTo len em (m - least) next n next d).1++_).length=_
   rw [List.length_append,u2,t2]
  ·have hc':AtC cd n ((emUpTo len em (m - least) next n next d).1++(emTimes len em least (n+(m - least) * (len+1)) (emUpTo len em (m - least) next n next d).2 d).1):=hc
   exact (t3 cd _ _ d (hc'.right (u2 _ _ _ _))).seq (u3 cd next n next d GoC.id hc'.left) t1 u1
 | none=>
  refine ⟨fun n next d=>?_,t1.seq (mn_star h.mn),fun cd n next d hc=>?_⟩
  ·show ((emTurns em n next d).1++_).length=_
   rw [List.length_append,t2]
   show (em (n+2) (n+1) (d+1)).1.length+1+1+_=_
   rw [h.lens]
  ·have hc':AtC cd n ((emTurns em n next d).1++(emTimes len em least (n+(len+2)) (emTurns em n next d).2 d).1):=hc
   have l2:(emTurns em n next d).1.length=len+2:=by
    show (em (n+2) (n+1) (d+1)).1.length+1+1=_
    rw [h.lens]
   exact (t3 cd _ _ d (hc'.right l2)).seq (starW h hc'.left) t1 (mn_star h.mn)
end
end
