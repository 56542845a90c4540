import Derived.Test.YtnfglkdkmcocnaaGreatDoorR22
import Derived.Test.YtnfglkdkmcocnaaGreatDoorR25
set_option maxRecDepth 100000
set_option maxHeartbeats 16000000
set_option linter.all false
namespace Go.Proofs.YtnfglkdkmcocnaaGreatDoor
open Go.RowKit
def Dwm (p:Fm):Prop:=∀ n d,∀ i∈p.2 n d,i.dp < d+p.1
theorem dwm_row:∀ l:List Fm,(∀ p∈l,Dwm p)→∀ n d,∀ i∈fRow l n d,i.dp < d+fLen l
 | [],_,_,_,i,hi=>by cases hi
 | p::l,h,n,d,i,hi=>by
  have el:fLen (p::l)=p.1+fLen l:=by simp [fLen]
  rcases List.mem_append.1 (show i∈p.2 n d++fRow l (n+p.1) d from hi) with q | q
  ·have:=h p (by simp) n d i q;omega
  ·have:=dwm_row l (fun q hq=>h q (by simp [hq])) (n+p.1) d i q;omega
theorem dwm_brs:∀ l:List Fm,(∀ p∈l,Dwm p)→∀ n d e,∀ i∈fBrs l n d e,i.dp < d+(fLen l+2 * (l.length - 1))
 | [],_,_,_,_,i,hi=>by cases hi
 | [p],h,n,d,e,i,hi=>by
  have:=h p (by simp) n d i hi
  have el:fLen [p]=p.1:=by simp [fLen]
  omega
 | p::q::l,h,n,d,e,i,hi=>by
  have el:fLen (p::q::l)=p.1+fLen (q::l):=by simp [fLen]
  have e2:(p::q::l).length - 1=l.length+1:=by simp
  have e3:(q::l).length - 1=l.length:=by simp
  rw [el,e2]
  rcases List.mem_cons.1 (show i∈noIn 4 (n+1) (n+p.1+2) 0 0::(p.2 (n+1) d++(noIn 7 e e 0 0::fBrs (q::l) (n+p.1+2) d e)) from hi) with rfl | hi
  ·show 0 < _;omega
  ·rcases List.mem_append.1 hi with hi | hi
   ·have:=h p (by simp) _ _ i hi;omega
   ·rcases List.mem_cons.1 hi with rfl | hi
    ·show 0 < _;omega
    ·have:=dwm_brs (q::l) (fun r hr=>h r (by simp at hr;simp [hr])) _ _ _ i hi
     rw [e3] at this;omega
theorem dwm_times {p:Fm} (h:Dwm p):∀ k n d,∀ i∈fTimes p.1 p.2 k n d,i.dp < d+p.1
 | 0,_,_,i,hi=>by cases hi
 | k+1,n,d,i,hi=>by
  rcases List.mem_append.1 (show i∈p.2 n d++fTimes p.1 p.2 k (n+p.1) d from hi) with q | q
  ·exact h n d i q
  ·exact dwm_times h k _ d i q
theorem dwm_up {p:Fm} (h:Dwm p):∀ k n d e,∀ i∈fUpTo p.1 p.2 k n d e,i.dp < d+(p.1+1)
 | 0,_,_,_,i,hi=>by cases hi
 | k+1,n,d,e,i,hi=>by
  rcases List.mem_cons.1 (show i∈noIn 4 (n+1) e 0 0::(p.2 (n+1) d++fUpTo p.1 p.2 k (n+p.1+1) d e) from hi) with rfl | hi
  ·show 0 < _;omega
  ·rcases List.mem_append.1 hi with hi | hi
   ·have:=h _ _ i hi;omega
   ·exact dwm_up h k _ d e i hi
theorem mul_pos_of_mem {a b:Nat} (h:0 < a):b≤a * b:=by
 cases a with
 | zero=>omega
 | succ a=>rw [Nat.add_mul];omega
theorem Pn.Ok.dwm {x:Pn} (h:x.Ok):Dwm x.fm:=by
 induction h with
 | one m=>intro n d i hi;rw [Pn.fm] at hi ⊢;rw [List.mem_singleton.1 hi];show d < d+1;omega
 | @edge k h=>intro n d i hi;rw [Pn.fm] at hi ⊢;rw [List.mem_singleton.1 hi];show d < d+1;omega
 | @group g x h1 h2 _ ih=>
  intro n d i hi
  rw [Pn.fm] at hi ⊢
  show i.dp < d+(x.fm.1+2)
  rcases List.mem_cons.1 (show i∈noIn 3 (n+1) 0 (2 * g) 0::(x.fm.2 (n+1) d++[noIn 3 (n+x.fm.1+2) 0 (2 * g+1) 0]) from hi) with rfl | hi
  ·show 0 < _;omega
  ·rcases List.mem_append.1 hi with hi | hi
   ·have:=ih _ _ i hi;omega
   ·rw [List.mem_singleton.1 hi];show 0 < _;omega
 | @rep x a b hb _ ih=>
  intro n d i hi
  cases b with
  | some m=>
   rw [Pn.fm] at hi ⊢
   show i.dp < d+(a * x.fm.1+(m - a) * (x.fm.1+1))
   rcases List.mem_append.1 (show i∈fTimes x.fm.1 x.fm.2 a n d++fUpTo x.fm.1 x.fm.2 (m - a) (n+a * x.fm.1) d (n+(a * x.fm.1+(m - a) * (x.fm.1+1))) from hi) with hi | hi
   ·have h0:0 < a:=by
     cases a with
     | zero=>cases hi
     | succ a=>omega
    have:=dwm_times ih _ _ _ i hi
    have:=mul_pos_of_mem (b:=x.fm.1) h0
    omega
   ·have h0:0 < m - a:=by
     cases e:m - a with
     | zero=>rw [e] at hi;cases hi
     | succ a=>omega
    have:=dwm_up ih _ _ _ _ i hi
    have:=mul_pos_of_mem (b:=x.fm.1+1) h0
    omega
  | none=>
   rw [Pn.fm] at hi ⊢
   show i.dp < d+(a * x.fm.1+(x.fm.1+2))
   rcases List.mem_append.1 (show i∈fTimes x.fm.1 x.fm.2 a n d++(noIn 4 (n+a * x.fm.1+1) (n+a * x.fm.1+x.fm.1+2) 0 0::(x.fm.2 (n+a * x.fm.1+1) (d+1)++[noIn 5 (n+a * x.fm.1) 0 0 d])) from hi) with hi | hi
   ·have:=dwm_times ih _ _ _ i hi;omega
   ·rcases List.mem_cons.1 hi with rfl | hi
    ·show 0 < _;omega
    ·rcases List.mem_append.1 hi with hi | hi
     ·have:=ih _ _ i hi;omega
     ·rw [List.mem_singleton.1 hi];show d < _;omega
 | @row l _ ih=>
  intro n d
  rw [Pn.fm,fmL_map]
  exact dwm_row _ (fun p hp=>by
   obtain ⟨x,hx,rfl⟩:=List.mem_map.1 hp
   exact ih x hx) n d
 | @brs l hl _ ih=>
  intro n d
  rw [Pn.fm,fmL_map]
  exact dwm_brs _ (fun p hp=>by
   obtain ⟨x,hx,rfl⟩:=List.mem_map.1 hp
   exact ih x hx) n d _
theorem seenD_lt {n R N pc tk pl:Nat} (h1:pc < n) (h2:tk < R) (h3:pl≤N):seenD R N pc tk pl < n * R * (N+1):=by
 unfold seenD
 have e1:pc * R+tk+1≤n * R:=by
  have:(pc+1) * R≤n * R:=Nat.mul_le_mul_right _ h1
  rw [Nat.add_mul] at this;omega
 have:(pc * R+tk+1) * (N+1)≤n * R * (N+1):=Nat.mul_le_mul_right _ e1
 rw [Nat.add_mul] at this;omega
theorem goD_start {cd:Nat→In} {text:ByteArray} {R st:Nat} {m:Zt} {sn:Nat→Bool} {bt:Option Zt} {s':Ds} (g:GoD cd text R none ⟨[.go 0 0 st],m,sn,bt⟩ s'):GoD cd text R (some (0,0,st)) ⟨[],m,sn,bt⟩ s':=by
 obtain ⟨k,hk⟩:=g
 cases k with
 | zero=>cases hk
 | succ k=>exact ⟨k,by rw [driveD] at hk;exact hk⟩
theorem foldl_mem (l:List (Nat×Zt)):∀ w,l.foldl (fun b w=>if b.1 < w.1 then w else b) w∈w::l:=by
 induction l with
 | nil=>intro w;simp
 | cons v l ih=>
  intro w
  rw [List.foldl_cons]
  rcases List.mem_cons.1 (ih (if w.1 < v.1 then v else w)) with q | q
  ·rw [q];split <;> simp
  ·simp [q]
theorem findT_mem {T:Rt}:∀ (k i a:Nat) (z:Nat×Zt),findT T k i=some (a,z)→z∈T a∧a < i+k
 | 0,_,_,_,h=>by cases h
 | k+1,i,a,z,h=>by
  rw [findT] at h
  cases e:T i with
  | nil=>
   rw [e] at h
   have:=findT_mem k (i+1) a z h
   exact ⟨this.1,by omega⟩
  | cons w l=>
   rw [e] at h
   have h:some (i,l.foldl (fun b w=>if b.1 < w.1 then w else b) w)=some (a,z):=h
   injection h with h
   injection h with h1 h2
   subst h1
   rw [e,←h2]
   exact ⟨foldl_mem l w,by omega⟩
theorem fnd_z {text:ByteArray} {x:Pn} {a:Nat} {z:Nat×Zt} (hg:x.Gk) (h0:¬ x.gs 0) (h:fnd text x=some (a,z)):zOf a z 0=a∧zOf a z 1=z.1∧∀ i,2≤i→zOf a z i=z.2 i:=by
 obtain ⟨hm,ha⟩:=findT_mem _ _ _ _ h
 have hm:z∈x.vt text a:=frs_sub _ hm
 have ha:a≤text.size:=by omega
 have z0:=vt_0 hg h0 ha hm
 refine ⟨?_,zOf_1 a z,fun i hi=>?_⟩
 ·have e:¬ 0≤z.2 (2 * (0 / 2)):=by show ¬ 0≤z.2 0;omega
  simp only [zOf,nu,mix,if_neg e];rfl
 ·simp only [zOf,nu,mix]
  rw [if_neg (by omega)]
  split
  ·rfl
  ·have hn:nz a i = -1:=by unfold nz;rw [if_neg (by omega)]
   rw [hn]
   rcases (hg.rel text).nt a z ha hm (i / 2) with q | q
   ·omega
   ·by_cases e:i % 2=0
    ·have:2 * (i / 2)=i:=by omega
     rw [this] at q;omega
    ·have:2 * (i / 2)+1=i:=by omega
     rw [this] at q;omega
def okJ (n R N:Nat):Jb→Prop
 | .go pc tk pl=>pc < n∧tk < R∧pl≤N
 | .back sl _=>2≤sl∧sl < 20
structure Mi (cd:Nat→In) (text:ByteArray) (n R st:Nat) (sn0:Nat→Bool) (o:Option (Nat×Nat×Nat)) (s:Ds):Prop where
 jb:∀ j∈s.jobs,okJ n R text.size j
 pt:∀ pc tk pl,o=some (pc,tk,pl)→pc < n∧tk < R∧pl≤text.size
 m0:s.mks 0=st
 bt:∀ z,s.bt=some z→z 0=st∧0≤z 1
 go:∀ s',GoD cd text R o s s'→GoD cd text R (some (0,0,st)) ⟨[],nz st,sn0,none⟩ s'
section
variable {cd:Nat→In} {text:ByteArray} {n R st pc tk pl:Nat} {sn0:Nat→Bool} {s:Ds}
theorem Mi.start (h0:0 < n) (hR:0 < R) (hs:st≤text.size):Mi cd text n R st sn0 none ⟨[.go 0 0 st],nz st,sn0,none⟩:=
 ⟨fun j hj=>by rw [List.mem_singleton.1 hj];exact ⟨h0,hR,hs⟩,fun _ _ _ e=>(by cases e),by simp [nz],fun z e=>(by cases e),fun s' g=>goD_start g⟩
theorem Mi.seen (h:Mi cd text n R st sn0 (some (pc,tk,pl)) s) (hs:s.sn (seenD R text.size pc tk pl)=true):Mi cd text n R st sn0 none s:=
 ⟨h.jb,fun _ _ _ e=>(by cases e),h.m0,h.bt,fun s' g=>h.go s' (goD_seen hs g)⟩
theorem Mi.popGo {l:List Jb} (h:Mi cd text n R st sn0 none s) (e:s.jobs=l++[.go pc tk pl]):Mi cd text n R st sn0 (some (pc,tk,pl)) { s with jobs:=l }:=
 ⟨fun j hj=>h.jb j (by rw [e];simp [show j∈l from hj]),fun _ _ _ q=>(by
   have:=h.jb (.go pc tk pl) (by rw [e];simp)
   cases q;exact this),h.m0,h.bt,fun s' g=>h.go s' (goD_go e g)⟩
theorem Mi.popBack {l:List Jb} {sl:Nat} {old:Int} (h:Mi cd text n R st sn0 none s) (e:s.jobs=l++[.back sl old]):(2≤sl∧sl < 20)∧Mi cd text n R st sn0 none { s with jobs:=l,mks:=nu s.mks sl old }:=by
 have h2:2≤sl∧sl < 20:=h.jb (.back sl old) (by rw [e];simp)
 refine ⟨h2,fun j hj=>h.jb j (by rw [e];simp [show j∈l from hj]),fun _ _ _ q=>(by cases q),?_,h.bt,fun s' g=>h.go s' (goD_back e g)⟩
 show nu s.mks sl old 0=st
 unfold nu;rw [if_neg (by omega)];exact h.m0
theorem Mi.step (hc:CokD cd n R) (h20:∀ a,a < n→(cd a).kind=3→(cd a).sl < 20) (h:Mi cd text n R st sn0 (some (pc,tk,pl)) s) (hs:¬ s.sn (seenD R text.size pc tk pl)=true) {o:Option (Nat×Nat×Nat)} {s1:Ds}
  (he:stepD cd text pc tk pl { s with sn:=more s.sn (seenD R text.size pc tk pl) }=(o,s1)):Mi cd text n R st sn0 o s1:=by
 obtain ⟨a1,a2,a3⟩:=h.pt _ _ _ rfl
 obtain ⟨b1,b2,b3,b4,b5⟩:=hc pc a1
 have b6:=h20 pc a1
 have hgo:∀ s',GoD cd text R o s1 s'→GoD cd text R (some (0,0,st)) ⟨[],nz st,sn0,none⟩ s':=fun s' g=>h.go s' (goD_step hs (by rw [he];exact g))
 have hm:=h.m0
 unfold stepD at he
 dsimp only at he
 have jobs1:∀ (x:Jb),okJ n R text.size x→∀ j∈s.jobs++[x],okJ n R text.size j:=fun x hx j hj=>by
  rcases List.mem_append.1 hj with q | q
  ·exact h.jb j q
  ·rw [List.mem_singleton.1 q];exact hx
 repeat' split at he
 all_goals (injection he with he1 he2;subst he1;subst he2)
 all_goals refine ⟨?_,?_,?_,?_,hgo⟩
 all_goals first
  | exact h.jb
  | exact hm
  | exact h.bt
  | (intro _ _ _ q;cases q;done)
  | (intro p1 p2 p3 q;injection q with q;injection q with q1 q;injection q with q2 q3;subst q1;subst q2;subst q3;exact ⟨by omega,by omega,by omega⟩)
  | exact jobs1 _ ⟨by omega,by omega,by omega⟩
  | exact jobs1 _ ⟨b5 (by assumption),b6 (by assumption)⟩
  | (show nu s.mks _ _ 0=_;have:=b5 (by assumption);unfold nu;rw [if_neg (by omega)];exact hm)
  | skip
 intro z hz
 have hz0:nu s.mks 1 pl 0=st:=by unfold nu;rw [if_neg (by omega)];exact hm
 have hz1:nu s.mks 1 pl 1=(pl:Int):=by unfold nu;rw [if_pos rfl]
 have hz:pickE s.bt (nu s.mks 1 pl)=some z:=hz
 cases e:s.bt with
 | none=>rw [e] at hz;cases hz;exact ⟨hz0,by omega⟩
 | some b=>
  rw [e] at hz
  unfold pickE at hz
  dsimp only at hz
  split at hz
  ·cases hz;exact ⟨hz0,by omega⟩
  ·cases hz;exact h.bt _ e
theorem Mi.done (h:Mi cd text n R st sn0 none s) (e:s.jobs=[]):GoD cd text R (some (0,0,st)) ⟨[],nz st,sn0,none⟩ s:=h.go s (goD_done e)
end
def endB:Option Zt→Int
 | none=>-1
 | some z=>z 1
theorem pickE_yes {o:Option Zt} {z:Zt} (h:endB o < z 1):pickE o z=some z:=by
 cases o with
 | none=>rfl
 | some b=>exact if_pos h
theorem pickE_no {o:Option Zt} {z:Zt} (h0:0≤z 1) (h:¬ endB o < z 1):pickE o z=o:=by
 cases o with
 | none=>exact absurd (show (-1:Int) < z 1 by omega) h
 | some b=>exact if_neg h
section
variable {w w' w1:World}
theorem Lw.far {m m':Nat} {S:List Nat} {lv:Value} {l:List (Nat×Zt)} (h:Lw w m lv l) (k:Kp S w w') (hm:m≤w.heap.size) (hS:∀ g,lv.ownBlock=some g→g∉S) (hm':m≤m'):Lw w' m' lv l:=by
 rcases h with h | ⟨gb,c,q1,q2,q3,q4⟩
 ·exact .inl h
 ·exact .inr ⟨gb,c,q1,q2,by omega,fun j u hu=>(k.cell (p:=⟨gb,j,none⟩) (by show gb < _;omega) (hS gb (by rw [q1];rfl))).trans (q4 j u hu)⟩
theorem Lw.lt {m g:Nat} {lv:Value} {l:List (Nat×Zt)} (h:Lw w m lv l) (hg:lv.ownBlock=some g):g < m:=by
 rcases h with ⟨h,_⟩ | ⟨gb,c,q1,_,q3,_⟩
 ·rw [h] at hg;cases hg
 ·rw [q1] at hg
  have e:gb=g:=Option.some.inj hg
  omega
def updT (T:Nat→List (Nat×Zt)) (a:Nat) (l:List (Nat×Zt)):Nat→List (Nat×Zt):=fun x=>if x=a then l else T x
structure Tu (w:World) (W m tb c n:Nat) (T:Nat→List (Nat×Zt)):Prop where
 lo:W≤tb
 hi:tb < m
 mw:m≤w.heap.size
 nc:n+1≤c
 free:∀ a,w.frozen? ⟨tb,a,none⟩=false
 lw:∀ a,a≤n→∃ lv,w.cell? ⟨tb,a,none⟩=some lv∧Lw w m lv (T a)∧lv.ownBlock≠some tb
variable {W m tb c n:Nat} {T:Nat→List (Nat×Zt)}
theorem Tu.tw (h:Tu w W m tb c n T):Tw w m (.slice (some ⟨tb,0,none⟩) (n+1) c) n T:=
 ⟨tb,c,rfl,h.nc,h.hi,fun a ha=>by obtain ⟨lv,e1,e2,_⟩:=h.lw a ha;exact ⟨lv,e1,e2⟩⟩
theorem Tu.keep {S:List Nat} {m':Nat} (h:Tu w W m tb c n T) (k:Kp S w w') (hS:∀ x∈S,m≤x) (h1:m≤m') (h2:m'≤w'.heap.size):Tu w' W m' tb c n T:=by
 have hl:tb < w.heap.size:=Nat.lt_of_lt_of_le h.hi h.mw
 have hn:tb∉S:=fun hx=>by have:=hS tb hx;have:=h.hi;omega
 refine ⟨h.lo,Nat.lt_of_lt_of_le h.hi h1,h2,h.nc,fun a=>(k.frozen (p:=⟨tb,a,none⟩) hl hn).trans (h.free a),fun a ha=>?_⟩
 obtain ⟨lv,e1,e2,e3⟩:=h.lw a ha
 exact ⟨lv,(k.cell (p:=⟨tb,a,none⟩) hl hn).trans e1,e2.keep k h.mw hS h1,e3⟩
theorem Tu.set {a m':Nat} {lv:Value} {l:List (Nat×Zt)} (h:Tu w W m tb c n T) (ha:a≤n) (hl:Lw w m' lv l) (ne:lv.ownBlock≠some tb) (h1:m≤m') (h2:m'≤w.heap.size):Tu (w.setCell ⟨tb,a,none⟩ lv) W m' tb c n (updT T a l):=by
 have kk:Kp [tb] w (w.setCell ⟨tb,a,none⟩ lv):=Kp.setCell (S:=[tb]) _ _ (by simp)
 have hs:(w.setCell ⟨tb,a,none⟩ lv).heap.size=w.heap.size:=by simp [World.setCell]
 refine ⟨h.lo,Nat.lt_of_lt_of_le h.hi h1,by omega,h.nc,fun x=>by simpa using h.free x,fun x hx=>?_⟩
 obtain ⟨lx,e1,e2,e3⟩:=h.lw x hx
 unfold updT
 by_cases e:x=a
 ·subst e
  rw [if_pos rfl]
  exact ⟨lv,cell_same _ e1,hl.far kk h2 (fun g hg hm=>ne (by rw [hg,List.mem_singleton.1 hm])) (Nat.le_refl _),ne⟩
 ·rw [if_neg e]
  exact ⟨lx,by rw [cell_other _ (fun q=>by injection q with _ q2 _;exact e q2.symm)];exact e1,e2.far kk h.mw (fun g hg hm=>e3 (by rw [hg,List.mem_singleton.1 hm])) h1,e3⟩
theorem Tu.congr {U:Nat→List (Nat×Zt)} (h:Tu w W m tb c n T) (e:∀ a,a≤n→T a=U a):Tu w W m tb c n U:=
 ⟨h.lo,h.hi,h.mw,h.nc,h.free,fun a ha=>by rw [←e a ha];exact h.lw a ha⟩
theorem Tu.base {V:Nat} (h:Tu w W m tb c n T) (hV:V≤W):Tu w V m tb c n T:=⟨Nat.le_trans hV h.lo,h.hi,h.mw,h.nc,h.free,h.lw⟩
theorem Ow.one {p:Nat×Zt} {g:Nat} {lv:Value} (hl:lv=.slice (some ⟨g,0,none⟩) 1 1) (hg:g=w.heap.size):Lw (w.alloc (.cells (wyC p).toArray 197)) (w.heap.size+1) lv [p]:=
 .inr ⟨g,1,hl,Nat.le_refl _,by omega,fun j u hu=>by
  subst hg
  have e:flatW [p]=wyC p:=by simp [flatW]
  rw [e] at hu
  exact (Bl.alloc w (wyC p) 197).at_ j u hu⟩
theorem own_free {g:Nat} {cur:Array Value} {e:TypeId} (h:w.heap[g]? = some (.cells cur e)) (a:Nat):w.frozen? ⟨g,a,none⟩=false:=by simp only [World.frozen?,h];simp
theorem Tryz.infoWs:(Tryz.prog.info? 194).map (fun i=>(i.zero,i.size,i.bytes))=some (some (.slice none 0 0),1,24):=by kernel_rfl
theorem stay_any (hn:n≤900):Calls Tryz.prog 119 #[.int .i64 (n:Nat)] w fun e w'=>∃ tb c,e=.returned (.slice (some ⟨tb,0,none⟩) (n+1) c)∧Tu w' w.heap.size w'.heap.size tb c n (fun a=>[(a,neg)])∧Kp [] w w':=by
 obtain ⟨i0,z,hi,hz0,hz1,hz2,hz3⟩:=way_parts
 have HI:=hid (And.intro hi (And.intro hz0 (And.intro hz1 (And.intro hz2 hz3))))
 clear hi hz0 hz1 hz2 hz3
 obtain ⟨j0,hj,hy0,hy1,hy2⟩:=info_parts Tryz.infoWs
 have HJ:=hid (And.intro hj (And.intro hy0 (And.intro hy1 hy2)))
 clear hj hy0 hy1 hy2
 go_enter Tryz.func119,Tryz.ntmps119
 go_wp2_with fail
 go_loopw [3,4] (fun tv iv wr=>∃ k vs,k≤n+1∧iv=.int .i64 (k:Nat)∧wr.ownsRow w.heap.size 194 1 tv k vs∧Kp [] w wr∧Hid (∀ a,a < k→∃ lv,vs[a]? = some lv∧Lw wr wr.heap.size lv [(a,neg)]∧∀ g,lv.ownBlock=some g→tv.ownBlock≠some g)) (fun _ iv _=>2000 - (intOf iv).toNat)
 case atStart=>exact ⟨0,[],Nat.zero_le _,rfl,World.ownsRow_nil _ _ _ _,Kp.refl _ _,hid (fun a ha=>by omega)⟩
 case round=>
  obtain ⟨k,vs,hk,rfl,ho,kr,hd⟩:=hrel
  by_cases hlt:k≤n
  ·have q1:(k:Int)≤(n:Int):=by omega
   have hc1:IntKind.i64.wrap ((k:Int)+1)=((k+1:Nat):Int):=wrap_i64_succ k (k+1) rfl (by omega)
   have HK:=hid (And.intro ho kr)
   clear ho kr
   go_wp2_with fail
   refine (still_any (x:=k)).mono ?_
   rintro e w3 ⟨rfl,k3⟩
   obtain ⟨ho,kr⟩:=HK.out
   have k4:=Kp.alloc [] w3 (.cells (wyC (k,neg)).toArray 197)
   have o5:Hid (((w3.alloc (.cells (wyC (k,neg)).toArray 197)).alloc (.cells #[.slice (some ⟨w3.heap.size,0,none⟩) 1 1] 194)).ownsRow w.heap.size 194 1 u3 k vs):=hid (own_kp (own_kp ho (k3.trans k4) (by simp)) (Kp.alloc [] _ _) (by simp))
   have s5:Hid (w.heap.size≤((w3.alloc (.cells (wyC (k,neg)).toArray 197)).alloc (.cells #[.slice (some ⟨w3.heap.size,0,none⟩) 1 1] 194)).heap.size):=hid (Nat.le_trans kr.size (Nat.le_trans (k3.trans k4).size (Kp.alloc [] _ _).size))
   have CE:Hid (∀ j u,[Value.slice (some ⟨w3.heap.size,0,none⟩) 1 1][j]? = some u→((w3.alloc (.cells (wyC (k,neg)).toArray 197)).alloc (.cells #[.slice (some ⟨w3.heap.size,0,none⟩) 1 1] 194)).cell? ((⟨w3.heap.size+1,0,none⟩:Addr).add j)=some u):=hid (fun j u hu=>by
    have:=(Bl.alloc (w3.alloc (.cells (wyC (k,neg)).toArray 197)) [.slice (some ⟨w3.heap.size,0,none⟩) 1 1] 194).at_ j u hu
    rw [show (w3.alloc (.cells (wyC (k,neg)).toArray 197)).heap.size=w3.heap.size+1 by simp] at this
    rw [Addr.add_mid,Nat.zero_add];exact this)
   have HK3:=hid k3
   clear ho kr k4 k3
   go_wp2_with (first | (refine wpList_one rfl 194 197 (.tmp 12) rfl (wyC (k,neg)) i0 z 21 rfl Tryz.underlying194 HI.out.1 HI.out.2.1 HI.out.2.2.1 HI.out.2.2.2.2 (wyC_len _) (by decide) (by decide) ?_) | (at_builtin;refine wpList_app rfl _ _ 117 rfl w.heap.size 194 j0 (.slice none 0 0) 1 24 Tryz.underlying117 HJ.out.1 HJ.out.2.1 HJ.out.2.2.1 HJ.out.2.2.2 rfl (by decide) u3 k vs rfl o5.out ⟨w3.heap.size+1,0,none⟩ 1 1 [.slice (some ⟨w3.heap.size,0,none⟩) 1 1] rfl rfl CE.out (fun u hu=>by simp at hu;subst hu;rfl) (by unfold maxLen;omega) (by omega) s5.out (by omega) ?_;intro gb cap w8 ho8 hgr hor))
   go_roundw
   ·obtain ⟨ho,kr⟩:=HK.out
    have k3:=HK3.out
    have k4:=Kp.alloc [] w3 (.cells (wyC (k,neg)).toArray 197)
    have k5:=Kp.alloc [] (w3.alloc (.cells (wyC (k,neg)).toArray 197)) (.cells #[.slice (some ⟨w3.heap.size,0,none⟩) 1 1] 194)
    have k8:Kp u3.ownBlock.toList _ w8:=kp_grownR hgr (by simp)
    have s3:=k3.size
    have z4:(w3.alloc (.cells (wyC (k,neg)).toArray 197)).heap.size=w3.heap.size+1:=by simp
    have z5:=k5.size
    have s8:=k8.size
    have hol:=ho.lt
    have K48:Kp u3.ownBlock.toList (w3.alloc (.cells (wyC (k,neg)).toArray 197)) w8:=(k5.mono (by simp)).trans k8
    have Kr8:Kp u3.ownBlock.toList wr w8:=((k3.trans k4).mono (by simp)).trans K48
    refine ⟨k+1,vs++[.slice (some ⟨w3.heap.size,0,none⟩) 1 1],by omega,by go_num,ho8,((kr.mono (by simp)).trans Kr8).news (fun y hy=>(hol y (by simpa using hy)).1),hid (fun a ha=>?_)⟩
    have hvl:vs.length=k:=by have:=ho.1;omega
    by_cases e:a=k
    ·subst e
     refine ⟨.slice (some ⟨w3.heap.size,0,none⟩) 1 1,by rw [←hvl];simp,(Ow.one rfl rfl).far K48 (by omega) (fun g hg hm=>?_) (by omega),fun g hg e2=>?_⟩
     ·have e1:w3.heap.size=g:=Option.some.inj hg
      have:=(hol g (by simpa using hm)).2
      omega
     ·have e1:w3.heap.size=g:=Option.some.inj hg
      have e2:gb=g:=Option.some.inj e2
      rcases hor with z | z
      ·have:=(hol gb z).2;omega
      ·omega
    ·obtain ⟨lv,f1,f2,f3⟩:=hd.out a (by omega)
     refine ⟨lv,by rw [List.getElem?_append_left (by omega)];exact f1,f2.far Kr8 (Nat.le_refl _) (fun g hg hm=>f3 g hg (by simpa using hm)) Kr8.size,fun g hg e2=>?_⟩
     have e2:gb=g:=Option.some.inj e2
     have:=f2.lt hg
     rcases hor with z | z
     ·exact f3 g hg (by rw [z,e2])
     ·omega
   ·simp [intOf];omega
  ·have q1:¬ (k:Int)≤(n:Int):=by omega
   have ek:k=n+1:=by omega
   subst ek
   rcases ho.2 with ⟨_,z2⟩ | ⟨gb,c,cur,z1,_,hcur,hnc,_⟩
   ·omega
   ·have HK:=hid (And.intro ho (And.intro kr z1))
    subst z1
    clear ho kr
    go_wp2_with fail
    go_ret
    obtain ⟨ho,kr,_⟩:=HK.out
    have hlt:=ho.lt gb rfl
    refine ⟨gb,c,rfl,⟨hlt.1,hlt.2,Nat.le_refl _,hnc,fun a=>own_free hcur a,fun a ha=>?_⟩,kr⟩
    obtain ⟨lv,f1,f2,f3⟩:=hd.out a (by omega)
    have f4:=ho.cells (g:=gb) rfl a lv f1
    rw [Addr.add_mid,Nat.zero_add] at f4
    exact ⟨lv,f4,f2,fun e=>f3 gb e rfl⟩
end
