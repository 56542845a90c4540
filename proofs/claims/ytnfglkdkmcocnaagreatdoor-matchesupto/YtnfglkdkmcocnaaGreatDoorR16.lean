import Derived.Test.YtnfglkdkmcocnaaGreatDoorR15
set_option maxRecDepth 100000
set_option maxHeartbeats 16000000
set_option linter.all false
namespace Go.Proofs.YtnfglkdkmcocnaaGreatDoor
open Go.RowKit
inductive Jb where
 | go (pc tk pl:Nat)
 | back (sl:Nat) (old:Int)
structure Ds where
 jobs:List Jb
 mks:Zt
 sn:Nat→Bool
 bt:Option Zt
def seenD (R N pc tk pl:Nat):Nat:=(pc * R+tk) * (N+1)+pl
def pickE:Option Zt→Zt→Option Zt
 | none,z=>some z
 | some b,z=>if b 1 < z 1 then some z else some b
def stepD (cd:Nat→In) (text:ByteArray) (pc tk pl:Nat) (s:Ds):Option (Nat×Nat×Nat)×Ds:=
 let i:=cd pc
 if i.kind=0 then
  if h:pl < text.size then (if i.m (text[pl]'h).toNat=true then (some (i.nx,i.dp,pl+1),s) else (none,s)) else (none,s)
 else if i.kind=1 then (if pl=0 then (some (i.nx,tk,pl),s) else (none,s))
 else if i.kind=2 then (if pl=text.size then (some (i.nx,tk,pl),s) else (none,s))
 else if i.kind=3 then (some (i.nx,tk,pl),{ s with jobs:=s.jobs++[.back i.sl (s.mks i.sl)],mks:=nu s.mks i.sl pl })
 else if i.kind=4 then (some (i.nx,tk,pl),{ s with jobs:=s.jobs++[.go i.ot tk pl] })
 else if i.kind=5 then (if tk=i.dp+1 then (some (i.nx,i.dp,pl),s) else (none,s))
 else if i.kind=7 then (some (i.nx,tk,pl),{ s with jobs:=s.jobs++[.go i.nx tk pl] })
 else (none,{ s with bt:=pickE s.bt (nu s.mks 1 pl) })
def driveD (cd:Nat→In) (text:ByteArray) (R:Nat):Nat→Option (Nat×Nat×Nat)→Ds→Option Ds
 | 0,_,_=>none
 | k+1,some (pc,tk,pl),s=>if s.sn (seenD R text.size pc tk pl)=true then driveD cd text R k none s else
   driveD cd text R k (stepD cd text pc tk pl { s with sn:=more s.sn (seenD R text.size pc tk pl) }).1 (stepD cd text pc tk pl { s with sn:=more s.sn (seenD R text.size pc tk pl) }).2
 | k+1,none,s=>match s.jobs.getLast? with
  | none=>some s
  | some (.go pc tk pl)=>driveD cd text R k (some (pc,tk,pl)) { s with jobs:=s.jobs.dropLast }
  | some (.back sl old)=>driveD cd text R k none { s with jobs:=s.jobs.dropLast,mks:=nu s.mks sl old }
def GoD (cd:Nat→In) (text:ByteArray) (R:Nat) (o:Option (Nat×Nat×Nat)) (s s':Ds):Prop:=∃ k,driveD cd text R k o s=some s'
section
variable {cd:Nat→In} {text:ByteArray} {n R:Nat}
theorem goD_seen {pc tk pl:Nat} {s s':Ds} (h:s.sn (seenD R text.size pc tk pl)=true) (g:GoD cd text R none s s'):GoD cd text R (some (pc,tk,pl)) s s':=by
 obtain ⟨k,hk⟩:=g
 refine ⟨k+1,?_⟩
 rw [driveD,if_pos h];exact hk
theorem goD_step {pc tk pl:Nat} {s s':Ds} (h:¬ s.sn (seenD R text.size pc tk pl)=true)
  (g:GoD cd text R (stepD cd text pc tk pl { s with sn:=more s.sn (seenD R text.size pc tk pl) }).1 (stepD cd text pc tk pl { s with sn:=more s.sn (seenD R text.size pc tk pl) }).2 s'):GoD cd text R (some (pc,tk,pl)) s s':=by
 obtain ⟨k,hk⟩:=g
 refine ⟨k+1,?_⟩
 rw [driveD,if_neg h];exact hk
theorem goD_go {pc tk pl:Nat} {s s':Ds} {l:List Jb} (h:s.jobs=l++[.go pc tk pl]) (g:GoD cd text R (some (pc,tk,pl)) { s with jobs:=l } s'):GoD cd text R none s s':=by
 obtain ⟨k,hk⟩:=g
 refine ⟨k+1,?_⟩
 have e1:s.jobs.getLast? = some (.go pc tk pl):=by rw [h];simp
 have e2:s.jobs.dropLast=l:=by rw [h];simp
 rw [driveD,e1,e2];exact hk
theorem goD_back {sl:Nat} {old:Int} {s s':Ds} {l:List Jb} (h:s.jobs=l++[.back sl old]) (g:GoD cd text R none { s with jobs:=l,mks:=nu s.mks sl old } s'):GoD cd text R none s s':=by
 obtain ⟨k,hk⟩:=g
 refine ⟨k+1,?_⟩
 have e1:s.jobs.getLast? = some (.back sl old):=by rw [h];simp
 have e2:s.jobs.dropLast=l:=by rw [h];simp
 rw [driveD,e1,e2];exact hk
theorem goD_done {s:Ds} (h:s.jobs=[]):GoD cd text R none s s:=⟨1,by rw [driveD,h];rfl⟩
theorem driveD_mono:∀ (k:Nat) (o:Option (Nat×Nat×Nat)) (s r:Ds),driveD cd text R k o s=some r→driveD cd text R (k+1) o s=some r
 | 0,_,_,_,h=>by cases h
 | k+1,some (pc,tk,pl),s,r,h=>by
  rw [driveD] at h ⊢
  split
  ·rw [if_pos (by assumption)] at h;exact driveD_mono k _ _ _ h
  ·rw [if_neg (by assumption)] at h;exact driveD_mono k _ _ _ h
 | k+1,none,s,r,h=>by
  rw [driveD] at h ⊢
  split
  ·rename_i e;rw [e] at h;exact h
  ·rename_i e;rw [e] at h;exact driveD_mono k _ _ _ h
  ·rename_i e;rw [e] at h;exact driveD_mono k _ _ _ h
theorem goD_det {o:Option (Nat×Nat×Nat)} {s a b:Ds} (h:GoD cd text R o s a) (h2:GoD cd text R o s b):a=b:=by
 obtain ⟨k,hk⟩:=h
 obtain ⟨l,hl⟩:=h2
 have up:∀ {k r} (j:Nat),driveD cd text R k o s=some r→driveD cd text R (k+j) o s=some r:=fun {k r} j h=>by
  induction j with
  | zero=>exact h
  | succ j ih=>exact driveD_mono _ _ _ _ ih
 have a1:=up l hk
 have a2:=up k hl
 rw [Nat.add_comm,a1] at a2
 exact Option.some.inj a2
def CokD (cd:Nat→In) (n R:Nat):Prop:=∀ a,a < n→(cd a).kind≤7∧(cd a).nx < n∧(cd a).ot < n∧(cd a).dp < R∧((cd a).kind=3→2≤(cd a).sl)
def okP (text:ByteArray) (n R pl:Nat) (t:Thr):Prop:=t.pc < n∧t.tk < R∧pl≤text.size
theorem seenD_inj {pl q:Nat} {t u:Thr} (ht:okP text n R pl t) (hu:okP text n R q u) (h:seenD R text.size t.pc t.tk pl=seenD R text.size u.pc u.tk q):sameC t u∧pl=q:=by
 unfold seenD at h
 obtain ⟨t1,t2,t3⟩:=ht
 obtain ⟨u1,u2,u3⟩:=hu
 have e1:∀ a p,p≤text.size→(a * (text.size+1)+p) / (text.size+1)=a:=fun a p hp=>by
  rw [Nat.mul_comm,Nat.mul_add_div (by omega),Nat.div_eq_of_lt (by omega)];rfl
 have e2:∀ a p,p < R→(a * R+p) / R=a:=fun a p hp=>by
  rw [Nat.mul_comm,Nat.mul_add_div (by omega),Nat.div_eq_of_lt hp];rfl
 have a1:t.pc * R+t.tk=u.pc * R+u.tk:=by rw [←e1 (t.pc * R+t.tk) pl t3,←e1 (u.pc * R+u.tk) q u3,h]
 have a2:t.pc=u.pc:=by rw [←e2 t.pc t.tk t2,←e2 u.pc u.tk u2,a1]
 rw [a1] at h
 rw [a2] at a1
 exact ⟨⟨a2,by omega⟩,by omega⟩
structure IvD (cd:Nat→In) (text:ByteArray) (n R:Nat) (O:Nat→Thr→Prop) (s:Ds) (b:Int):Prop where
 cov:∀ q u,okP text n R q u→s.sn (seenD R text.size u.pc u.tk q)=true→O q u∨∀ k M,compF cd text k q u=some M→∀ z∈M,Cvd s.bt b (z 1)
 st:∀ y,s.bt=some y→y 0=b
theorem pickE_eq {o:Option Zt} {z:Zt} (h:∀ y,o=some y→y 0=z 0):pickE o z=pick o z:=by
 cases o with
 | none=>rfl
 | some b=>
  have:=h b rfl
  unfold pickE pick
  dsimp only
  by_cases e:b 1 < z 1
  ·rw [if_pos e,if_pos (by omega)]
  ·rw [if_neg e,if_neg (by omega)]
theorem pick_start {o:Option Zt} {z:Zt} {b:Int} (h:∀ y,o=some y→y 0=b) (hz:z 0=b):∀ y,pick o z=some y→y 0=b:=by
 intro y hy
 cases o with
 | none=>cases hy;exact hz
 | some c=>
  unfold pick at hy
  dsimp only at hy
  split at hy
  ·cases hy;exact hz
  ·cases hy;exact h y rfl
theorem follow_d (hc:CokD cd n R) (hs:∀ a,(cd a).kind=3→2≤(cd a).sl):∀ (h pl:Nat) (t:Thr) (L:List Zt) (s:Ds) (O:Nat→Thr→Prop),compF cd text h pl t=some L→okP text n R pl t→(∀ q u,O q u→compF cd text h q u=none)→s.mks=t.x→IvD cd text n R O s (t.x 0) →
  ∃ s1,(∀ s',GoD cd text R none s1 s'→GoD cd text R (some (t.pc,t.tk,pl)) s s')∧s1.jobs=s.jobs∧s1.mks=s.mks∧s1.bt=L.foldl pick s.bt∧IvD cd text n R O s1 (t.x 0):=by
 intro h
 induction h with
 | zero=>intro pl t L s O e;cases e
 | succ h ih=>
  intro pl t L s O e ht hO hmk iv
  have hat:=compF_at hs _ _ _ _ e
  by_cases hseen:s.sn (seenD R text.size t.pc t.tk pl)=true
  ·refine ⟨s,fun s' g=>goD_seen hseen g,rfl,rfl,(fold_cv L fun z hz=>?_).symm,iv⟩
   rcases iv.cov pl t ht hseen with q | q
   ·rw [hO pl t q] at e;cases e
   ·rw [(hat z hz).1];exact q _ _ e z hz
  have hO1:∀ q u,O q u→compF cd text h q u=none:=fun q u hu=>by
   cases q1:compF cd text h q u with
   | none=>rfl
   | some M=>have:=compF_mono _ _ _ _ q1;rw [hO q u hu] at this;cases this
  cases hmin:compF cd text h pl t with
  | some L'=>
   have:=compF_det hmin e
   subst this
   exact ih pl t L' s O hmin ht hO1 hmk iv
  | none=>
   obtain ⟨hk,hnx,hot,hdp,hsl⟩:=hc t.pc ht.1
   generalize e0:({ s with sn:=more s.sn (seenD R text.size t.pc t.tk pl) }:Ds)=s0
   have j0:s0.jobs=s.jobs:=by rw [←e0]
   have m0:s0.mks=s.mks:=by rw [←e0]
   have b0:s0.bt=s.bt:=by rw [←e0]
   have n0:s0.sn=more s.sn (seenD R text.size t.pc t.tk pl):=by rw [←e0]
   have hO':∀ q u,(O q u∨(sameC t u∧pl=q))→compF cd text h q u=none:=by
    rintro q u (w | ⟨w,rfl⟩)
    ·exact hO1 q u w
    ·cases q1:compF cd text h pl u with
     | none=>rfl
     | some M=>
      obtain ⟨_,q2,_⟩:=compF_same _ _ _ t _ ⟨w.1.symm,w.2.symm⟩ q1
      rw [hmin] at q2;cases q2
   have iv0:IvD cd text n R (fun q u=>O q u∨(sameC t u∧pl=q)) s0 (t.x 0):=by
    refine ⟨fun q u hu hx=>?_,by rw [b0];exact iv.st⟩
    rw [n0] at hx
    simp only [more,Bool.or_eq_true,beq_iff_eq] at hx
    rcases hx with w | w
    ·rcases iv.cov q u hu w with w | w
     ·exact .inl (.inl w)
     ·rw [b0];exact .inr w
    ·exact .inl (.inr (seenD_inj ht hu w.symm))
   have shut:∀ s1,IvD cd text n R (fun q u=>O q u∨(sameC t u∧pl=q)) s1 (t.x 0)→s1.bt=L.foldl pick s.bt→IvD cd text n R O s1 (t.x 0):=by
    intro s1 i1 hv
    refine ⟨fun q u hu hx=>?_,i1.st⟩
    rcases i1.cov q u hu hx with (w | ⟨w,rfl⟩) | w
    ·exact .inl w
    ·refine .inr fun k M hM z hz=>?_
     obtain ⟨M',q2,q3⟩:=compF_same _ _ _ t _ ⟨w.1.symm,w.2.symm⟩ hM
     have:=compF_det q2 e
     subst this
     have hz1:z 1∈M'.map (· 1):=by rw [q3];exact List.mem_map.2 ⟨z,hz,rfl⟩
     obtain ⟨z',z1,z2⟩:=List.mem_map.1 hz1
     have:=cv_fold M' s.bt z1
     rw [←hv,(hat z' z1).1,z2] at this
     exact this
    ·exact .inr w
   have none_case:L=[]→stepD cd text t.pc t.tk pl s0=(none,s0)→∃ s1,(∀ s',GoD cd text R none s1 s'→GoD cd text R (some (t.pc,t.tk,pl)) s s')∧s1.jobs=s.jobs∧s1.mks=s.mks∧s1.bt=L.foldl pick s.bt∧IvD cd text n R O s1 (t.x 0):=by
    intro hL q1
    refine ⟨s0,fun s' g=>goD_step hseen (by rw [e0,q1];exact g),j0,m0,by rw [b0,hL];rfl,shut s0 iv0 (by rw [b0,hL];rfl)⟩
   -- one way on
   have one_case:∀ (pl':Nat) (u:Thr),u.x=t.x→okP text n R pl' u→compF cd text h pl' u=some L→stepD cd text t.pc t.tk pl s0=(some (u.pc,u.tk,pl'),s0)→∃ s1,(∀ s',GoD cd text R none s1 s'→GoD cd text R (some (t.pc,t.tk,pl)) s s')∧s1.jobs=s.jobs∧s1.mks=s.mks∧s1.bt=L.foldl pick s.bt∧IvD cd text n R O s1 (t.x 0):=by
    intro pl' u hx hu eu q1
    obtain ⟨s1,g1,c1,c2,c3,c4⟩:=ih pl' u L s0 _ eu hu hO' (by rw [m0,hmk,hx]) (by rw [hx];exact iv0)
    rw [hx] at c4
    rw [b0] at c3
    exact ⟨s1,fun s' g=>goD_step hseen (by rw [e0,q1];exact g1 s' g),c1.trans j0,c2.trans m0,c3,shut s1 c4 c3⟩
   -- two ways on
   have two_case:∀ (u v:Thr) (A B:List Zt),u.x=t.x→v.x=t.x→okP text n R pl u→okP text n R pl v→compF cd text h pl u=some A→compF cd text h pl v=some B→(∀ o,L.foldl pick o=(A++B).foldl pick o)→stepD cd text t.pc t.tk pl s0=(some (u.pc,u.tk,pl),{ s0 with jobs:=s0.jobs++[.go v.pc v.tk pl] })→∃ s1,(∀ s',GoD cd text R none s1 s'→GoD cd text R (some (t.pc,t.tk,pl)) s s')∧s1.jobs=s.jobs∧s1.mks=s.mks∧s1.bt=L.foldl pick s.bt∧IvD cd text n R O s1 (t.x 0):=by
    intro u v A B hx hy hu hv eu ev hL q1
    obtain ⟨s1,g1,c1,c2,c3,c4⟩:=ih pl u A { s0 with jobs:=s0.jobs++[.go v.pc v.tk pl] } _ eu hu hO' (by show s0.mks=_;rw [m0,hmk,hx]) (by rw [hx];exact ⟨iv0.cov,iv0.st⟩)
    have c2:s1.mks=s0.mks:=c2
    have c3:s1.bt=A.foldl pick s0.bt:=c3
    rw [hx] at c4
    obtain ⟨s2,g2,d1,d2,d3,d4⟩:=ih pl v B { s1 with jobs:=s0.jobs } _ ev hv hO' (by show s1.mks=_;rw [c2,m0,hmk,hy]) (by rw [hy];exact ⟨c4.cov,c4.st⟩)
    have d1:s2.jobs=s0.jobs:=d1
    have d2:s2.mks=s1.mks:=d2
    have d3:s2.bt=B.foldl pick s1.bt:=d3
    rw [hy] at d4
    have hb:s2.bt=L.foldl pick s.bt:=by rw [d3,c3,hL,List.foldl_append,b0]
    exact ⟨s2,fun s' g=>goD_step hseen (by rw [e0,q1];exact g1 s' (goD_go c1 (g2 s' g))),d1.trans j0,d2.trans (c2.trans m0),hb,shut s2 d4 hb⟩
   rw [compF] at e
   by_cases h6:(cd t.pc).kind=6
   ·rw [if_pos h6] at e
    split at e
    ·cases e
     have es:stepD cd text t.pc t.tk pl s0=(none,{ s0 with bt:=pickE s0.bt (nu s0.mks 1 pl) }):=by simp [stepD,h6]
     have hz0:nu t.x 1 pl 0=t.x 0:=by simp [nu]
     have hb:pickE s0.bt (nu s0.mks 1 pl)=pick s.bt (nu t.x 1 pl):=by
      rw [b0,m0,hmk]
      exact pickE_eq fun y hy=>(iv.st y hy).trans hz0.symm
     rw [hb] at es
     refine ⟨{ s0 with bt:=pick s.bt (nu t.x 1 pl) },fun s' g=>goD_step hseen (by rw [e0,es];exact g),j0,m0,rfl,shut _ ⟨fun q u hu hx=>?_,pick_start iv.st hz0⟩ rfl⟩
     rcases iv0.cov q u hu hx with w | w
     ·exact .inl w
     ·refine .inr fun k M hM z hz=>?_
      have:=w k M hM z hz
      rw [b0] at this
      exact this.on _
    ·cases e
   ·rw [if_neg h6] at e
    by_cases hz:(cd t.pc).kind=0
    ·rw [if_pos hz] at e
     by_cases hb:takesB cd text pl t=true
     ·rw [if_pos hb] at e
      simp only [takesB,hz,decide_true,Bool.true_and] at hb
      split at hb
      ·rename_i hlt
       exact one_case (pl+1) (behind cd t) rfl ⟨hnx,hdp,hlt⟩ e (by simp [stepD,hz,hlt,hb,behind])
      ·cases hb
     ·rw [if_neg hb] at e
      cases e
      refine none_case rfl ?_
      simp only [takesB,hz,decide_true,Bool.true_and] at hb
      by_cases hlt:pl < text.size
      ·rw [dif_pos hlt] at hb
       simp [stepD,hz,hlt,hb]
      ·simp [stepD,hz,hlt]
    ·rw [if_neg hz] at e
     split at e
     ·cases e
     ·rename_i h5
      have hk':(cd t.pc).kind=1∨(cd t.pc).kind=2∨(cd t.pc).kind=3∨(cd t.pc).kind=4∨(cd t.pc).kind=5∨(cd t.pc).kind=7:=by omega
      have ok1:∀ (x:Zt),okP text n R pl ⟨(cd t.pc).nx,t.tk,x⟩:=fun _=>⟨hnx,ht.2.1,ht.2.2⟩
      rcases hk' with q | q | q | q | q | q
      ·by_cases hp:pl=0
       ·simp only [epsJ,epsC,q,hp,noteE] at e
        refine one_case pl ⟨(cd t.pc).nx,t.tk,t.x⟩ rfl (ok1 _) (by simpa [hp] using e) (by simp [stepD,q,hp])
       ·simp [epsJ,epsC,q,hp] at e
        exact none_case e (by simp [stepD,q,hp])
      ·by_cases hp:pl=text.size
       ·simp only [epsJ,epsC,q,noteE] at e
        refine one_case pl ⟨(cd t.pc).nx,t.tk,t.x⟩ rfl (ok1 _) (by simpa [hp] using e) (by simp [stepD,q,hp])
       ·simp [epsJ,epsC,q,hp] at e
        exact none_case e (by simp [stepD,q,hp])
      ·have e:compF cd text h pl ⟨(cd t.pc).nx,t.tk,nu t.x (cd t.pc).sl pl⟩=some L:=by simpa [epsJ,epsC,q,noteE] using e
       have es:stepD cd text t.pc t.tk pl s0=(some ((cd t.pc).nx,t.tk,pl),{ s0 with jobs:=s0.jobs++[.back (cd t.pc).sl (s0.mks (cd t.pc).sl)],mks:=nu s0.mks (cd t.pc).sl pl }):=by simp [stepD,q]
       have hx0:nu t.x (cd t.pc).sl pl 0=t.x 0:=by
        have:=hsl q
        unfold nu;rw [if_neg (by omega)]
       obtain ⟨s1,g1,c1,c2,c3,c4⟩:=ih pl ⟨(cd t.pc).nx,t.tk,nu t.x (cd t.pc).sl pl⟩ L { s0 with jobs:=s0.jobs++[.back (cd t.pc).sl (s0.mks (cd t.pc).sl)],mks:=nu s0.mks (cd t.pc).sl pl } _ e (ok1 _) hO' (by show nu s0.mks _ _=_;rw [m0,hmk]) (by show IvD _ _ _ _ _ _ (nu t.x (cd t.pc).sl pl 0);rw [hx0];exact ⟨iv0.cov,iv0.st⟩)
       have c2:s1.mks=nu s0.mks (cd t.pc).sl pl:=c2
       have c3:s1.bt=L.foldl pick s0.bt:=c3
       have c4:IvD cd text n R (fun q u=>O q u∨(sameC t u∧pl=q)) s1 (nu t.x (cd t.pc).sl pl 0):=c4
       rw [hx0] at c4
       rw [b0] at c3
       have hm:nu s1.mks (cd t.pc).sl (s0.mks (cd t.pc).sl)=s.mks:=by
        rw [c2,←m0]
        funext a
        unfold nu
        split
        ·rename_i w;rw [w]
        ·rfl
       refine ⟨{ s1 with jobs:=s0.jobs,mks:=nu s1.mks (cd t.pc).sl (s0.mks (cd t.pc).sl) },fun s' g=>goD_step hseen (by rw [e0,es];exact g1 s' (goD_back c1 g)),j0,hm,c3,?_⟩
       have:=shut s1 c4 c3
       exact ⟨this.cov,this.st⟩
      ·simp only [epsJ,epsC,q,noteE] at e
       simp at e
       split at e
       ·rename_i A B eA eB
        exact two_case ⟨(cd t.pc).nx,t.tk,t.x⟩ ⟨(cd t.pc).ot,t.tk,t.x⟩ A B rfl rfl (ok1 _) ⟨hot,ht.2.1,ht.2.2⟩ eA eB (fun o=>by cases e;rfl) (by simp [stepD,q])
       ·cases e
      ·by_cases hp:t.tk≤(cd t.pc).dp
       ·simp [epsJ,epsC,q,hp] at e
        exact none_case e (by simp [stepD,q];omega)
       ·have ht':t.tk=(cd t.pc).dp+1:=by omega
        simp only [epsJ,epsC,q,noteE] at e
        refine one_case pl ⟨(cd t.pc).nx,(cd t.pc).dp,t.x⟩ rfl ⟨hnx,hdp,ht.2.2⟩ (by simpa [hp] using e) (by simp [stepD,q,ht'])
      ·have e:compF cd text h pl ⟨(cd t.pc).nx,t.tk,t.x⟩=some L:=by simpa [epsJ,q,noteE] using e
       refine two_case ⟨(cd t.pc).nx,t.tk,t.x⟩ ⟨(cd t.pc).nx,t.tk,t.x⟩ L L rfl rfl (ok1 _) (ok1 _) e e (fun o=>?_) (by simp [stepD,q])
       rw [List.foldl_append]
       exact (fold_cv L fun z hz=>cv_fold L o hz).symm
def SrD (cd:Nat→In) (text:ByteArray) (R:Nat):Nat→Nat→(Nat→Bool)→Option Zt→Prop
 | 0,_,_,r=>r=none
 | k+1,st,sn,r=>∃ s',GoD cd text R (some (0,0,st)) ⟨[],nz st,sn,none⟩ s'∧((∃ z,s'.bt=some z∧r=some z)∨(s'.bt=none∧SrD cd text R k (st+1) s'.sn r))
theorem srD_first (hc:CokD cd n R) (hs:∀ a,(cd a).kind=3→2≤(cd a).sl) (h0:0 < n) (hR:0 < R) (hb:∀ a,a≤text.size→Has cd text a ⟨0,0,nz a⟩):∀ (k st:Nat) (sn:Nat→Bool) (r:Option Zt),SrD cd text R k st sn r→k+st≤text.size+1 →
  (∀ q u,okP text n R q u→sn (seenD R text.size u.pc u.tk q)=true→∀ k M,compF cd text k q u=some M→M=[])→r=firstZ cd text 0 k st
 | 0,_,_,_,h,_,_=>h
 | k+1,st,sn,r,h,hk,hcov=>by
  obtain ⟨s',g,h⟩:=h
  obtain ⟨j,e⟩:=(hb st (by omega)).cmp
  obtain ⟨s1,g1,c1,c2,c3,c4⟩:=follow_d hc hs j st ⟨0,0,nz st⟩ _ ⟨[],nz st,sn,none⟩ (fun _ _=>False) e ⟨h0,hR,by omega⟩ (fun _ _ h=>h.elim) rfl ⟨fun q u hu hx=>.inr fun k M hM z hz=>(by rw [hcov q u hu hx k M hM] at hz;cases hz),fun y hy=>(by cases hy)⟩
  have e1:=goD_det g (g1 s1 (goD_done c1))
  subst e1
  have c3:s'.bt=(cmp cd text st ⟨0,0,nz st⟩).foldl pick none:=c3
  rw [firstZ,←c3]
  rcases h with ⟨z,h1,h2⟩ | ⟨h1,h2⟩
  ·rw [h1,h2]
  ·rw [h1]
   refine srD_first hc hs h0 hR hb k (st+1) s'.sn r h2 (by omega) fun q u hu hx k M hM=>?_
   rcases c4.cov q u hu hx with w | w
   ·exact w.elim
   ·cases M with
    | nil=>rfl
    | cons z M=>
     obtain ⟨y,hy,_⟩:=w k _ hM z (by simp)
     rw [h1] at hy;cases hy
end
structure Sfo (text:ByteArray) (len:Nat) (em:Nat→Nat→List In) (A:Wt):Prop where
 lens:∀ n d,(em n d).length=len
 mn:Mno text A
 goes:∀ cd n d,AtC cd n (em n d)→GoC cd text n (n+len) d A
def fOne (m:Nat→Bool) (n d:Nat):List In:=[⟨0,n+1,0,0,d,m⟩]
def fEdge (k n d:Nat):List In:=[⟨k,n+1,0,0,d,noBytes⟩]
def fGroup (g len:Nat) (em:Nat→Nat→List In) (n d:Nat):List In:=noIn 3 (n+1) 0 (2 * g) 0::(em (n+1) d++[noIn 3 (n+len+2) 0 (2 * g+1) 0])
abbrev Fm:=Nat×(Nat→Nat→List In)
def fLen (l:List Fm):Nat:=(l.map (·.1)).sum
def fRow:List Fm→Nat→Nat→List In
 | [],_,_=>[]
 | p::l,n,d=>p.2 n d++fRow l (n+p.1) d
def fBrs:List Fm→Nat→Nat→Nat→List In
 | [],_,_,_=>[]
 | [p],n,d,_=>p.2 n d
 | p::q::l,n,d,e=>noIn 4 (n+1) (n+p.1+2) 0 0::(p.2 (n+1) d++(noIn 7 e e 0 0::fBrs (q::l) (n+p.1+2) d e))
def fTimes (len:Nat) (em:Nat→Nat→List In):Nat→Nat→Nat→List In
 | 0,_,_=>[]
 | k+1,n,d=>em n d++fTimes len em k (n+len) d
def fUpTo (len:Nat) (em:Nat→Nat→List In):Nat→Nat→Nat→Nat→List In
 | 0,_,_,_=>[]
 | k+1,n,d,e=>noIn 4 (n+1) e 0 0::(em (n+1) d++fUpTo len em k (n+len+1) d e)
def fTurns (len:Nat) (em:Nat→Nat→List In) (n d:Nat):List In:=noIn 4 (n+1) (n+len+2) 0 0::(em (n+1) (d+1)++[noIn 5 n 0 0 d])
def fRep (len:Nat) (em:Nat→Nat→List In) (least:Nat):Option Nat→Nat→Nat→List In
 | some most,n,d=>fTimes len em least n d++fUpTo len em (most - least) (n+least * len) d (n+(least * len+(most - least) * (len+1)))
 | none,n,d=>fTimes len em least n d++fTurns len em (n+least * len) d
section
variable {text:ByteArray} {A B:Wt} {len:Nat} {em:Nat→Nat→List In}
theorem go_one {cd:Nat→In} {n next d:Nat} {m:Nat→Bool} (hc:cd n=⟨0,next,0,0,d,m⟩):GoC cd text n next d (wOne text m):=(sw_one (text:=text) m).goes cd n next d fun k i hk=>by
 cases k with
 | zero=>cases hk;exact hc
 | succ k=>cases hk
theorem sf_one (m:Nat→Bool):Sfo text 1 (fOne m) (wOne text m):=⟨fun _ _=>rfl,(sw_one m).mn,fun cd n d hc=>go_one hc.head⟩
theorem go_edge {cd:Nat→In} {n next d k dp:Nat} {m:Nat→Bool} (hk:k=1∨k=2) (h0:cd n=⟨k,next,0,0,dp,m⟩):GoC cd text n next d (wEdge text k):=by
 intro i tk x hi ht hh
 have k0:(cd n).kind≠0:=by rw [h0];show k≠0;omega
 have k6:(cd n).kind≠6:=by rw [h0];show k≠6;omega
 have k5:(cd n).kind=5→tk≤(cd n).dp+1:=fun q=>by rw [h0] at q;have q:k=5:=q;omega
 by_cases q:(k=1∧i=0)∨(k=2∧i=text.size)
 ·have e:wEdge text k i x=[(i,x)]:=by unfold wEdge;rw [if_pos q]
  have hn:=hh (i,x) (by rw [e];simp)
  have hN:noteE cd i n x=x:=by unfold noteE;rw [h0,if_neg (show ¬ k=3 by omega)]
  have hE:epsJ cd text i n tk=[(next,tk)]:=by
   unfold epsJ epsC
   rcases q with ⟨rfl,q⟩ | ⟨rfl,q⟩ <;> simp [h0,q]
  obtain ⟨r1,r2⟩:=cmp_one (cd:=cd) (t:=⟨n,tk,x⟩) (i:=i) (text:=text) k0 k6 k5 hE (by simpa [hN,tkO] using hn)
  exact ⟨r1,by rw [r2,e];simp [hN,tkO]⟩
 ·have e:wEdge text k i x=[]:=by unfold wEdge;rw [if_neg q]
  have hE:epsJ cd text i n tk=[]:=by
   unfold epsJ epsC
   rcases hk with rfl | rfl
   ·simp [h0];simpa using q
   ·simp [h0];simpa using q
  obtain ⟨r1,r2⟩:=cmp_nil (cd:=cd) (t:=⟨n,tk,x⟩) (i:=i) (text:=text) k0 k6 k5 hE
  exact ⟨r1,by rw [r2,e];rfl⟩
theorem sf_edge (k:Nat) (hk:k=1∨k=2):Sfo text 1 (fEdge k) (wEdge text k):=⟨fun _ _=>rfl,(sw_edge k hk).mn,fun cd n d hc=>go_edge hk hc.head⟩
theorem sf_group {g:Nat} (h:Sfo text len em A):Sfo text (len+2) (fGroup g len em) (wGroup g A):=by
 refine ⟨fun n d=>?_,?_,fun cd n d hc=>?_⟩
 ·show ((_::(_++[_])):List In).length=len+2
  rw [List.length_cons,List.length_append,h.lens];rfl
 ·rw [wGroup_eq];exact (mn_note fun i x=>nu x (2 * g) i).seq (h.mn.seq (mn_note fun i x=>nu x (2 * g+1) i))
 ·have hc':AtC cd n (noIn 3 (n+1) 0 (2 * g) 0::(em (n+1) d++[noIn 3 (n+len+2) 0 (2 * g+1) 0])):=hc
  have c2:=h.goes cd (n+1) d hc'.tail.left
  have c3:cd (n+1+len)=noIn 3 (n+len+2) 0 (2 * g+1) 0:=(hc'.tail.right (h.lens _ _)).head
  rw [wGroup_eq,show n+(len+2)=n+len+2 by omega]
  exact (go_note hc'.head).seq (c2.seq (go_note c3) h.mn (mn_note fun i x=>nu x (2 * g+1) i)) (mn_note fun i x=>nu x (2 * g) i) (h.mn.seq (mn_note fun i x=>nu x (2 * g+1) i))
theorem sf_row:∀ l:List (Fm×Wt),(∀ p∈l,Sfo text p.1.1 p.1.2 p.2)→Sfo text (fLen (l.map (·.1))) (fRow (l.map (·.1))) (wRowF (l.map (·.2)))
 | [],_=>⟨fun _ _=>rfl,Mno.id,fun cd n d _=>GoC.id⟩
 | p::l,h=>by
  have hp:=h p (by simp)
  have ih:=sf_row l (fun q hq=>h q (by simp [hq]))
  have el:fLen ((p::l).map (·.1))=p.1.1+fLen (l.map (·.1)):=by simp [fLen]
  refine ⟨fun n d=>?_,hp.mn.seq ih.mn,fun cd n d hc=>?_⟩
  ·show (p.1.2 n d++_).length=_
   rw [List.length_append,hp.lens,ih.lens,el]
  ·have hc':AtC cd n (p.1.2 n d++fRow (l.map (·.1)) (n+p.1.1) d):=hc
   rw [el,←Nat.add_assoc]
   exact (hp.goes cd n d hc'.left).seq (ih.goes cd _ d (hc'.right (hp.lens _ _))) hp.mn ih.mn
theorem go_jump {cd:Nat→In} {n e d ot:Nat} (hc:cd n=noIn 7 e ot 0 0):GoC cd text n e d wId:=fun i tk x _ _ hh=>by
 have hn:=hh (i,x) (by simp [wId])
 have hN:noteE cd i n x=x:=by simp [noteE,hc]
 obtain ⟨r1,r2⟩:=cmp_one (cd:=cd) (t:=⟨n,tk,x⟩) (i:=i) (text:=text) (c:=(e,tk)) (by simp [hc]) (by simp [hc]) (by simp [hc]) (by simp [epsJ,hc]) (by simpa [hN,tkO] using hn)
 exact ⟨r1,by rw [r2];simp [hN,tkO,wId]⟩
theorem mn_any:∀ l:List Wt,(∀ p∈l,Mno text p)→Mno text (wAny l)
 | [],_=>fun _ _ _ _ h=>(by cases h)
 | a::l,h=>(h a (by simp)).or (mn_any l fun p hp=>h p (by simp [hp]))
theorem brs_len:∀ l:List (Fm×Wt),(∀ p∈l,Sfo text p.1.1 p.1.2 p.2)→∀ n d e,(fBrs (l.map (·.1)) n d e).length=fLen (l.map (·.1))+2 * (l.length - 1)
 | [],_,_,_,_=>rfl
 | [p],h,n,d,_=>by
  show (p.1.2 n d).length=_
  rw [(h p (by simp)).lens];simp [fLen]
 | p::q::l,h,n,d,e=>by
  have ih:=brs_len (q::l) (fun r hr=>h r (by simp at hr;simp [hr])) (n+p.1.1+2) d e
  show ((_::(p.1.2 (n+1) d++(_::fBrs ((q::l).map (·.1)) _ _ _))):List In).length=_
  rw [List.length_cons,List.length_append,List.length_cons,ih,(h p (by simp)).lens]
  simp [fLen];omega
theorem brs_goes:∀ l:List (Fm×Wt),l≠[]→(∀ p∈l,Sfo text p.1.1 p.1.2 p.2)→∀ cd n d e,e=n+(fLen (l.map (·.1))+2 * (l.length - 1))→AtC cd n (fBrs (l.map (·.1)) n d e)→GoC cd text n e d (wAny (l.map (·.2)))
 | [p],_,h,cd,n,d,e,he,hc=>by
  have e1:e=n+p.1.1:=by rw [he];simp [fLen]
  show GoC cd text n e d (wOr p.2 fun _ _=>[])
  rw [wOr_nil,e1]
  exact (h p (by simp)).goes cd n d hc
 | p::q::l,_,h,cd,n,d,e,he,hc=>by
  have hp:=h p (by simp)
  have hl:∀ r∈q::l,Sfo text r.1.1 r.1.2 r.2:=fun r hr=>h r (by simp at hr;simp [hr])
  have hc':AtC cd n (noIn 4 (n+1) (n+p.1.1+2) 0 0::(p.1.2 (n+1) d++(noIn 7 e e 0 0::fBrs ((q::l).map (·.1)) (n+p.1.1+2) d e))):=hc
  have c2:=hc'.tail.right (hp.lens _ _)
  have ih:=brs_goes (q::l) (by simp) hl cd (n+p.1.1+2) d e (by rw [he];simp [fLen];omega) (by rw [show n+p.1.1+2=n+1+p.1.1+1 by omega];rw [show n+p.1.1+2=n+1+p.1.1+1 by omega] at c2;exact c2.tail)
  have g1:GoC cd text (n+1) e d p.2:=by
   have:=(hp.goes cd (n+1) d hc'.tail.left).seq (go_jump c2.head) hp.mn Mno.id
   rwa [wSeq_id] at this
  exact GoC.or hc'.head g1 ih
theorem sf_brs (l:List (Fm×Wt)) (hl:l≠[]) (h:∀ p∈l,Sfo text p.1.1 p.1.2 p.2):Sfo text (fLen (l.map (·.1))+2 * (l.length - 1)) (fun n d=>fBrs (l.map (·.1)) n d (n+(fLen (l.map (·.1))+2 * (l.length - 1)))) (wAny (l.map (·.2))):=
 ⟨fun n d=>brs_len l h n d _,mn_any _ fun p hp=>by
   obtain ⟨q,q1,rfl⟩:=List.mem_map.1 hp
   exact (h q q1).mn,fun cd n d hc=>brs_goes l hl h cd n d _ rfl hc⟩
theorem timesF (h:Sfo text len em A):∀ k,Mno text (wTimes A k)∧(∀ n d,(fTimes len em k n d).length=k * len)∧∀ cd n d,AtC cd n (fTimes len em k n d)→GoC cd text n (n+k * len) d (wTimes A k)
 | 0=>⟨Mno.id,fun _ _=>by simp [fTimes],fun cd n d _=>by rw [Nat.zero_mul];exact GoC.id⟩
 | k+1=>by
  obtain ⟨i1,i2,i3⟩:=timesF h k
  have e:wTimes A (k+1)=wSeq A (wTimes A k):=by rw [wTimes,wTimes_comm]
  refine ⟨by rw [e];exact h.mn.seq i1,fun n d=>?_,fun cd n d hc=>?_⟩
  ·rw [fTimes,List.length_append,h.lens,i2,Nat.add_mul];omega
  ·have hc':AtC cd n (em n d++fTimes len em k (n+len) d):=hc
   rw [e,show n+(k+1) * len=n+len+k * len by rw [Nat.add_mul];omega]
   exact (h.goes cd n d hc'.left).seq (i3 cd _ d (hc'.right (h.lens _ _))) h.mn i1
theorem upF (h:Sfo text len em A):∀ k,Mno text (wUp A k wId)∧(∀ n d e,(fUpTo len em k n d e).length=k * (len+1))∧∀ cd n d e,e=n+k * (len+1)→AtC cd n (fUpTo len em k n d e)→GoC cd text n e d (wUp A k wId)
 | 0=>⟨Mno.id,fun _ _ _=>by simp [fUpTo],fun cd n d e he _=>by rw [he,Nat.zero_mul];exact GoC.id⟩
 | k+1=>by
  obtain ⟨i1,i2,i3⟩:=upF h k
  have e:wUp A (k+1) wId=wOr (wSeq A (wUp A k wId)) wId:=by rw [wUp,wUp_comm]
  refine ⟨by rw [e];exact (h.mn.seq i1).or Mno.id,fun n d e=>?_,fun cd n d en he hc=>?_⟩
  ·rw [fUpTo,List.length_cons,List.length_append,h.lens,i2,Nat.add_mul];omega
  ·have hc':AtC cd n (noIn 4 (n+1) en 0 0::(em (n+1) d++fUpTo len em k (n+len+1) d en)):=hc
   have c2:=hc'.tail.right (h.lens _ _)
   have e3:n+1+len=n+len+1:=by omega
   rw [e3] at c2
   have g:=h.goes cd (n+1) d hc'.tail.left
   rw [e3] at g
   rw [e]
   exact GoC.or hc'.head (g.seq (i3 cd _ d en (by rw [he,Nat.add_mul];omega) c2) h.mn i1) GoC.id
theorem starF (h:Sfo text len em A) {cd:Nat→In} {n d:Nat} (hc:AtC cd n (fTurns len em n d)):GoC cd text n (n+(len+2)) d (wStar text A):=by
 have hc':AtC cd n (noIn 4 (n+1) (n+len+2) 0 0::(em (n+1) (d+1)++[noIn 5 n 0 0 d])):=hc
 have c2:cd (n+1+len)=noIn 5 n 0 0 d:=(hc'.tail.right (h.lens _ _)).head
 exact star_go h.mn hc'.head c2 (h.goes cd (n+1) (d+1) hc'.tail.left)
theorem sf_rep (h:Sfo text len em A) (least:Nat) (most:Option Nat):Sfo text (match most with | some m=>least * len+(m - least) * (len+1) | none=>least * len+(len+2)) (fRep len em least most) (wRep text A least most):=by
 obtain ⟨t1,t2,t3⟩:=timesF h least
 cases most with
 | some m=>
  obtain ⟨u1,u2,u3⟩:=upF h (m - least)
  refine ⟨fun n d=>?_,t1.seq u1,fun cd n d hc=>?_⟩
  ·show (fTimes len em least n d++_).length=_
   rw [List.length_append,u2,t2]
  ·have hc':AtC cd n (fTimes len em least n d++fUpTo len em (m - least) (n+least * len) d (n+(least * len+(m - least) * (len+1)))):=hc
   show GoC cd text n (n+(least * len+(m - least) * (len+1))) d _
   exact (t3 cd n d hc'.left).seq (u3 cd _ d _ (by omega) (hc'.right (t2 _ _))) t1 u1
 | none=>
  refine ⟨fun n d=>?_,t1.seq (mn_star h.mn),fun cd n d hc=>?_⟩
  ·show (fTimes len em least n d++fTurns len em _ d).length=_
   rw [List.length_append,t2]
   show _+((em _ (d+1)++[_]).length+1)=_
   rw [List.length_append,h.lens];rfl
  ·have hc':AtC cd n (fTimes len em least n d++fTurns len em (n+least * len) d):=hc
   rw [←Nat.add_assoc]
   exact (t3 cd n d hc'.left).seq (starF h (hc'.right (t2 _ _))) t1 (mn_star h.mn)
end
theorem dd_star {text:ByteArray} {V:Rt} (hV:∀ i p,i≤text.size→p∈V i→i≤p.1∧p.1≤text.size) {i:Nat} (hi:i≤text.size) :
  ddT ((((ddT (V i)).filter fun p=>decide (p.1≠i)).flatMap fun p=>(ddT (vStar text V p.1)).map fun q=>(q.1,mix p.2 q.2))++[(i,neg)])=ddT (vStar text V i):=by
 rw [vStar_eq hV hi]
 show frs [] (_++_)=frs [] (_++_)
 have e:∀ p:Nat×Zt,((ddT (vStar text V p.1)).map fun q=>(q.1,mix p.2 q.2))=ddT ((vStar text V p.1).map fun q=>(q.1,mix p.2 q.2)):=fun p=>(frs_map (f:=fun q=>(q.1,mix p.2 q.2)) (fun _=>rfl) _ _).symm
 have e2:((ddT (V i)).filter fun p=>decide (p.1≠i))=frs [] ((V i).filter fun p=>decide (p.1≠i)):=(frs_filter (q:=fun a=>decide (a≠i)) _ _).symm
 have e3:frs [] (((ddT (V i)).filter fun p=>decide (p.1≠i)).flatMap fun p=>(ddT (vStar text V p.1)).map fun q=>(q.1,mix p.2 q.2))=frs [] (((V i).filter fun p=>decide (p.1≠i)).flatMap fun p=>(vStar text V p.1).map fun q=>(q.1,mix p.2 q.2)):=by
  rw [flatMap_same fun p _=>e p,frs_inner,e2]
  exact frs_flat (fun p p' h=>by simp [ends,h,Function.comp_def]) _ _ _ fun p h=>by cases h
 rw [frs_append,frs_append,e3]
 congr 1
 refine frs_congr _ fun a=>?_
 rw [←frs_ends _ a,e3,frs_ends _ a]
theorem vAny_eq:∀ (l:List Rt) (i:Nat),vAny l i=l.flatMap fun V=>V i
 | [],_=>rfl
 | V::l,i=>by rw [vAny,vOr,vAny_eq l i,List.flatMap_cons]
theorem dd_any (l:List Rt) (i:Nat):ddT (l.flatMap fun V=>ddT (V i))=ddT (vAny l i):=by
 rw [vAny_eq];exact frs_inner l []
def zOf (a:Nat) (p:Nat×Zt):Zt:=nu (mix (nz a) p.2) 1 p.1
def bstT:List (Nat×Zt)→Option (Nat×Zt)
 | []=>none
 | w::l=>some (l.foldl (fun b w=>if b.1 < w.1 then w else b) w)
theorem zOf_1 (a:Nat) (p:Nat×Zt):zOf a p 1=p.1:=by simp [zOf,nu]
theorem fold_dd {a:Nat}:∀ (l:List (Nat×Zt)) (D:List Nat) (o:Option Zt),(∀ p∈l,zOf a p 0=a)→(∀ e∈D,Cvd o a e)→(l.map (zOf a)).foldl pick o=((frs D l).map (zOf a)).foldl pick o
 | [],_,_,_,_=>rfl
 | w::l,D,o,h0,h=>by
  rw [List.map_cons,List.foldl_cons,frs]
  have hw:=h0 w (by simp)
  have hl:∀ p∈l,zOf a p 0=a:=fun p hp=>h0 p (by simp [hp])
  split
  ·rename_i e
   have:pick o (zOf a w)=o:=pick_cv (by rw [hw,zOf_1];exact h _ e)
   rw [this]
   exact fold_dd l D o hl h
  ·rw [List.map_cons,List.foldl_cons]
   refine fold_dd l _ _ hl fun e he=>?_
   rcases List.mem_cons.1 he with rfl | he
   ·have:=cv_pick o (zOf a w)
    rwa [hw,zOf_1] at this
   ·exact (h e he).on _
theorem bst_pick {a:Nat} {l:List (Nat×Zt)} (h0:∀ p∈l,zOf a p 0=a):(l.map (zOf a)).foldl pick none=(bstT l).map (zOf a):=by
 cases l with
 | nil=>rfl
 | cons w l=>
  rw [List.map_cons,List.foldl_cons]
  show (l.map (zOf a)).foldl pick (some (zOf a w))=some (zOf a (l.foldl _ w))
  have:∀ (l:List (Nat×Zt)) (w:Nat×Zt),zOf a w 0=a→(∀ p∈l,zOf a p 0=a)→(l.map (zOf a)).foldl pick (some (zOf a w))=some (zOf a (l.foldl (fun b w=>if b.1 < w.1 then w else b) w)):=by
   intro l
   induction l with
   | nil=>intro w _ _;rfl
   | cons v l ih=>
    intro w hw hl
    have hv:=hl v (by simp)
    rw [List.map_cons,List.foldl_cons,List.foldl_cons]
    have e:pick (some (zOf a w)) (zOf a v)=some (zOf a (if w.1 < v.1 then v else w)):=by
     unfold pick
     dsimp only
     rw [hw,hv,zOf_1,zOf_1]
     by_cases q:w.1 < v.1
     ·rw [if_pos q,if_pos (by omega)]
     ·rw [if_neg q,if_neg (by omega)]
    rw [e]
    exact ih _ (by split <;> assumption) fun p hp=>hl p (by simp [hp])
  exact this l w (h0 w (by simp)) fun p hp=>h0 p (by simp [hp])
def findT (T:Rt):Nat→Nat→Option (Nat×Nat×Zt)
 | 0,_=>none
 | k+1,i=>match bstT (T i) with
  | some w=>some (i,w)
  | none=>findT T k (i+1)
theorem first_find {cd:Nat→In} {text:ByteArray} {bg:Nat} {V:Rt} (h:∀ a,a≤text.size→cmp cd text a ⟨bg,0,nz a⟩=(V a).map (zOf a)) (h0:∀ a,a≤text.size→∀ p∈V a,p.2 0 = -1):∀ k i,k+i=text.size+1→firstZ cd text bg k i=(findT (fun i=>ddT (V i)) k i).map fun r=>zOf r.1 r.2
 | 0,_,_=>rfl
 | k+1,i,hk=>by
  have z0:∀ p∈V i,zOf i p 0=i:=fun p hp=>by
   have:=h0 i (by omega) p hp
   simp [zOf,nu,mix,nz,this]
  rw [firstZ,findT,h i (by omega),fold_dd (V i) [] none z0 (fun _ h=>by cases h),bst_pick (fun p hp=>z0 p (frs_sub _ hp))]
  cases e:bstT (frs [] (V i)) with
  | some w=>rfl
  | none=>exact first_find h h0 k (i+1) (by omega)
theorem cmp_ways {cd:Nat→In} {text:ByteArray} {bg next:Nat} {A:Wt} {V:Rt} {G:Nat→Prop} (hg:GoC cd text bg next 0 A) (h6:(cd next).kind=6) (hr:RelV text G A V) {a:Nat} (ha:a≤text.size) :
  Has cd text a ⟨bg,0,nz a⟩∧cmp cd text a ⟨bg,0,nz a⟩=(V a).map (zOf a):=by
 have fin:∀ i x,Has cd text i ⟨next,0,x⟩∧cmp cd text i ⟨next,0,x⟩=[nu x 1 i]:=fun i x=>has_eq (h:=1) (by rw [compF,if_pos h6,if_pos rfl])
 have t0:∀ j,tkO a 0 0 j=0:=fun j=>by unfold tkO;split <;> rfl
 obtain ⟨r1,r2⟩:=hg a 0 (nz a) ha (Nat.le_refl _) (fun p _=>by rw [t0];exact (fin _ _).1)
 refine ⟨r1,?_⟩
 rw [r2,hr.eq a _ ha,List.flatMap_map]
 rw [flatMap_same (g:=fun p=>[zOf a p]) fun p _=>by rw [t0];exact (fin _ _).2]
 simp [List.map_eq_flatMap]
def wyC (p:Nat×Zt):List Value:=
 .int .i64 (p.1:Nat)::(((List.range 10).map fun g=>Value.int .i64 (p.2 (2 * g)))++((List.range 10).map fun g=>Value.int .i64 (p.2 (2 * g+1))))
theorem wyC_len (p:Nat×Zt):(wyC p).length=21:=by simp [wyC]
theorem wyC_one (p:Nat×Zt):∀ u∈wyC p,u.oneCell'=true:=by
 intro u hu
 simp only [wyC,List.mem_cons,List.mem_append,List.mem_map] at hu
 rcases hu with rfl | ⟨i,_,rfl⟩ | ⟨i,_,rfl⟩ <;> rfl
theorem wyC_at (p:Nat×Zt):(wyC p)[0]? = some (.int .i64 (p.1:Nat))∧(∀ g,g < 10→(wyC p)[1+g]? = some (.int .i64 (p.2 (2 * g))))∧∀ g,g < 10→(wyC p)[11+g]? = some (.int .i64 (p.2 (2 * g+1))):=by
 refine ⟨rfl,fun g hg=>?_,fun g hg=>?_⟩
 ·rw [Nat.add_comm,wyC,List.getElem?_cons_succ,List.getElem?_append_left (by simpa using hg),List.getElem?_map,List.getElem?_range hg];rfl
 ·rw [show 11+g=(10+g)+1 by omega,wyC,List.getElem?_cons_succ,List.getElem?_append_right (by simp),List.getElem?_map]
  simp [List.getElem?_range hg]
def flatW (l:List (Nat×Zt)):List Value:=l.flatMap wyC
theorem flatW_snoc (l:List (Nat×Zt)) (p:Nat×Zt):flatW (l++[p])=flatW l++wyC p:=by simp [flatW]
theorem flatW_at:∀ (l:List (Nat×Zt)) (i:Nat) (p:Nat×Zt),l[i]? = some p→∀ j,j < 21→(flatW l)[i * 21+j]? = (wyC p)[j]?
 | p::l,0,q,h,j,hj=>by
  cases h
  show (wyC p++flatW l)[0 * 21+j]? = _
  rw [Nat.zero_mul,Nat.zero_add,List.getElem?_append_left (by rw [wyC_len];exact hj)]
 | p::l,i+1,q,h,j,hj=>by
  have ih:=flatW_at l i q (by simpa using h) j hj
  show (wyC p++flatW l)[(i+1) * 21+j]? = _
  rw [List.getElem?_append_right (by rw [wyC_len];omega),wyC_len,show (i+1) * 21+j - 21=i * 21+j by omega]
  exact ih
def Lw (w:World) (m:Nat) (lv:Value) (l:List (Nat×Zt)):Prop:=
 (lv=.slice none 0 0∧l=[])∨∃ gb c,lv=.slice (some ⟨gb,0,none⟩) l.length c∧l.length≤c∧gb < m∧∀ j u,(flatW l)[j]? = some u→w.cell? ⟨gb,j,none⟩=some u
abbrev Ow (w:World) (B:Nat) (lv:Value) (l:List (Nat×Zt)):Prop:=w.ownsRow B 197 21 lv l.length (flatW l)
theorem Ow.nil (w:World) (B:Nat):Ow w B (.slice none 0 0) []:=World.ownsRow_nil _ _ _ _
theorem Ow.lw {w:World} {B:Nat} {lv:Value} {l:List (Nat×Zt)} (h:Ow w B lv l):Lw w w.heap.size lv l:=by
 rcases h.2 with ⟨q1,q2⟩ | ⟨gb,c,cur,q1,_,q3,q5,_⟩
 ·exact .inl ⟨q1,List.eq_nil_of_length_eq_zero q2⟩
 ·refine .inr ⟨gb,c,q1,q5,lt_of_block q3,fun j u hu=>?_⟩
  have:=h.cells (g:=gb) (by rw [q1];rfl) j u hu
  rwa [Addr.add_mid,Nat.zero_add] at this
theorem Lw.keep {w w':World} {m m':Nat} {S:List Nat} {lv:Value} {l:List (Nat×Zt)} (h:Lw w m lv l) (k:Kp S w w') (hm:m≤w.heap.size) (hS:∀ x∈S,m≤x) (hm':m≤m'):Lw w' m' lv l:=by
 rcases h with h | ⟨gb,c,q1,q2,q3,q4⟩
 ·exact .inl h
 ·exact .inr ⟨gb,c,q1,q2,by omega,fun j u hu=>(k.cell (p:=⟨gb,j,none⟩) (by show gb < _;omega) (fun hx=>by have:=hS gb hx;omega)).trans (q4 j u hu)⟩
theorem Lw.way {w:World} {m:Nat} {lv:Value} {l:List (Nat×Zt)} (h:Lw w m lv l) {i:Nat} {p:Nat×Zt} (hi:l[i]? = some p):∃ gb c,lv=.slice (some ⟨gb,0,none⟩) l.length c∧l.length≤c∧i < l.length∧w.rangeAt gb (i * 21) (wyC p):=by
 have hlt:=(List.getElem?_eq_some_iff.1 hi).1
 rcases h with ⟨_,rfl⟩ | ⟨gb,c,q1,q2,_,q4⟩
 ·cases hi
 ·refine ⟨gb,c,q1,q2,hlt,fun j u hu=>?_⟩
  refine q4 (i * 21+j) u ?_
  have hj:j < 21:=by have:=(List.getElem?_eq_some_iff.1 hu).1;rwa [wyC_len] at this
  rw [flatW_at l i p hi j hj];exact hu
def Tw (w:World) (m:Nat) (tv:Value) (n:Nat) (T:Nat→List (Nat×Zt)):Prop:=
 ∃ tb c,tv=.slice (some ⟨tb,0,none⟩) (n+1) c∧n+1≤c∧tb < m∧∀ a,a≤n→∃ lv,w.cell? ⟨tb,a,none⟩=some lv∧Lw w m lv (T a)
theorem Tw.keep {w w':World} {m m' n:Nat} {S:List Nat} {tv:Value} {T:Nat→List (Nat×Zt)} (h:Tw w m tv n T) (k:Kp S w w') (hm:m≤w.heap.size) (hS:∀ x∈S,m≤x) (hm':m≤m'):Tw w' m' tv n T:=by
 obtain ⟨tb,c,q1,q2,q3,q4⟩:=h
 refine ⟨tb,c,q1,q2,by omega,fun a ha=>?_⟩
 obtain ⟨lv,e1,e2⟩:=q4 a ha
 exact ⟨lv,(k.cell (p:=⟨tb,a,none⟩) (by show tb < _;omega) (fun hx=>by have:=hS tb hx;omega)).trans e1,e2.keep k hm hS hm'⟩
theorem Tw.congr {w:World} {m n:Nat} {tv:Value} {T U:Nat→List (Nat×Zt)} (h:Tw w m tv n T) (e:∀ a,a≤n→T a=U a):Tw w m tv n U:=by
 obtain ⟨tb,c,q1,q2,q3,q4⟩:=h
 exact ⟨tb,c,q1,q2,q3,fun a ha=>by rw [←e a ha];exact q4 a ha⟩
