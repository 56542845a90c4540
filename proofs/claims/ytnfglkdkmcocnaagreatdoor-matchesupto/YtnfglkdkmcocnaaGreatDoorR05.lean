import Derived.Test.YtnfglkdkmcocnaaGreatDoorR04
set_option maxRecDepth 100000
set_option maxHeartbeats 16000000
set_option linter.all false
namespace Go.Proofs.YtnfglkdkmcocnaaGreatDoor
open Go.RowKit
variable {Z:List (Nat×Obj)}
def stepA (cd:Nat→In) (text:ByteArray) (pl:Nat) (t:Thr) (s:Mc):Option Thr×Mc:=
 let i:=cd t.pc
 if i.kind=0 then
  if h:pl < text.size then
   if i.m (text[pl]'h).toNat=true then (none,{ s with ahead:=s.ahead++[⟨i.nx,i.dp,t.x⟩] }) else (none,s)
  else (none,s)
 else if i.kind=1 then (if pl=0 then (some ⟨i.nx,t.tk,t.x⟩,s) else (none,s))
 else if i.kind=2 then (if pl=text.size then (some ⟨i.nx,t.tk,t.x⟩,s) else (none,s))
 else if i.kind=3 then (some ⟨i.nx,t.tk,nu t.x i.sl pl⟩,s)
 else if i.kind=4 then (some ⟨i.nx,t.tk,t.x⟩,{ s with left:=s.left++[⟨i.ot,t.tk,t.x⟩] })
 else if i.kind=5 then (if t.tk≤i.dp then (none,s) else (some ⟨i.nx,i.dp,t.x⟩,s))
 else (none,{ s with fd:=true,best:=nu t.x 1 pl })
structure Cd (w:World) (p g c n D:Nat) (cd:Nat→In):Prop where
 hp:p < w.heap.size
 hg:g < w.heap.size
 p0:w.cell? ⟨p,0,none⟩=some (.slice (some ⟨g,0,none⟩) n c)
 p3:w.cell? ⟨p,3,none⟩=some (.int .i64 D)
 k0:∀ a,a < n→w.cell? ⟨g,a * 9,none⟩=some (.int .i64 (cd a).kind)
 k1:∀ a,a < n→w.cell? ⟨g,a * 9+1,none⟩=some (.int .i64 (cd a).nx)
 k2:∀ a,a < n→w.cell? ⟨g,a * 9+2,none⟩=some (.int .i64 (cd a).ot)
 k3:∀ a,a < n→w.cell? ⟨g,a * 9+3,none⟩=some (.int .i64 (cd a).sl)
 k4:∀ a,a < n→w.cell? ⟨g,a * 9+4,none⟩=some (.int .i64 (cd a).dp)
 k5:∀ a,a < n→w.cell? ⟨g,a * 9+5,none⟩=some (.int .u64 (wd (cd a).m 0))
 k6:∀ a,a < n→w.cell? ⟨g,a * 9+5+1,none⟩=some (.int .u64 (wd (cd a).m 1))
 k7:∀ a,a < n→w.cell? ⟨g,a * 9+5+2,none⟩=some (.int .u64 (wd (cd a).m 2))
 k8:∀ a,a < n→w.cell? ⟨g,a * 9+5+3,none⟩=some (.int .u64 (wd (cd a).m 3))
 ok:∀ a,a < n→(cd a).kind≤6∧(cd a).nx < n∧(cd a).ot < n∧(cd a).sl < 20∧(cd a).dp≤D
theorem Cd.keep {w W:World} {p g c n D:Nat} {cd:Nat→In} (h:Cd w p g c n D cd) (k:Kp [] w W):Cd W p g c n D cd:=by
 have cg:∀ i,W.cell? ⟨g,i,none⟩=w.cell? ⟨g,i,none⟩:=fun i=>k.cell (p:=⟨g,i,none⟩) h.hg (by simp)
 have cp:∀ i,W.cell? ⟨p,i,none⟩=w.cell? ⟨p,i,none⟩:=fun i=>k.cell (p:=⟨p,i,none⟩) h.hp (by simp)
 exact ⟨Nat.lt_of_lt_of_le h.hp k.size,Nat.lt_of_lt_of_le h.hg k.size,(cp _).trans h.p0,(cp _).trans h.p3,fun a ha=>(cg _).trans (h.k0 a ha),fun a ha=>(cg _).trans (h.k1 a ha),fun a ha=>(cg _).trans (h.k2 a ha),fun a ha=>(cg _).trans (h.k3 a ha),fun a ha=>(cg _).trans (h.k4 a ha),
  fun a ha=>(cg _).trans (h.k5 a ha),fun a ha=>(cg _).trans (h.k6 a ha),fun a ha=>(cg _).trans (h.k7 a ha),fun a ha=>(cg _).trans (h.k8 a ha),h.ok⟩
structure Tb (Z:List (Nat×Obj)) (w W:World) (f sb:Nat) (v3 v4 v5:Value) (T:Nat) (t:Thr):Prop where
 far:Fg.Far Z w f sb v3 v4 v5 T
 lt:T < W.heap.size
 cells:W.rangeAt T 0 (tf t.pc t.tk t.x)
 free:∀ i,W.frozen? ⟨T,i,none⟩=false
section
variable {w W W':World} {f p g c n D sb N pl T:Nat} {text:ByteArray} {here:List Thr} {v3 v4 v5 v4' v5':Value} {s:Mc} {cd:Nat→In} {t:Thr}
theorem Tb.t0 (h:Tb Z w W f sb v3 v4 v5 T t):W.cell? ⟨T,0,none⟩=some (.int .i64 t.pc):=h.cells 0 _ rfl
theorem Tb.t1 (h:Tb Z w W f sb v3 v4 v5 T t):W.cell? ⟨T,1,none⟩=some (.int .i64 t.tk):=h.cells 1 _ rfl
theorem Tb.notes (h:Tb Z w W f sb v3 v4 v5 T t):W.rangeAt T 2 (nf t.x):=fun j v hv=>by
 have:=h.cells (j+2) v hv
 rwa [show 0+(j+2)=2+j by omega] at this
theorem Tb.stay (h:Tb Z w W f sb v3 v4 v5 T t) (hb:W'.heap[T]? = W.heap[T]?) (hz:W.heap.size≤W'.heap.size) (h4:v4'.ownBlock≠some T) (h5:v5'.ownBlock≠some T):Tb Z w W' f sb v3 v4' v5' T t:=
 ⟨⟨h.far.lo,h.far.nf,h.far.ns,h.far.n3,h4,h5,h.far.nz⟩,Nat.lt_of_lt_of_le h.lt hz,fun j v hv=>(World.cell?_of_block (w:=W) hb).trans (h.cells j v hv),fun i=>(World.frozen?_of_block (w:=W) (a:=⟨T,i,none⟩) hb).trans (h.free i)⟩
theorem Tb.keep (h:Tb Z w W f sb v3 v4 v5 T t) (k:Kp [] W W'):Tb Z w W' f sb v3 v4 v5 T t:=h.stay (k.block T h.lt (by simp)) k.size h.far.n4 h.far.n5
theorem Tb.pc (h:Tb Z w W f sb v3 v4 v5 T t) (q:Nat):Tb Z w (W.setCell ⟨T,0,none⟩ (.int .i64 (q:Int))) f sb v3 v4 v5 T ⟨q,t.tk,t.x⟩:=by
 refine ⟨h.far,by simpa [World.setCell] using h.lt,fun j v hv=>?_,fun i=>by simpa using h.free i⟩
 by_cases e:j=0
 ·subst e
  have hv':v=.int .i64 (q:Int):=by simpa using hv.symm
  subst hv'
  exact cell_same _ h.t0
 ·rw [cell_other _ (fun r=>by injection r with _ r2 _;omega)]
  refine h.cells j v ?_
  match j,e,hv with
  | j+1,_,hv=>exact hv
theorem Tb.take (h:Tb Z w W f sb v3 v4 v5 T t) (q:Nat):Tb Z w (W.setCell ⟨T,1,none⟩ (.int .i64 (q:Int))) f sb v3 v4 v5 T ⟨t.pc,q,t.x⟩:=by
 refine ⟨h.far,by simpa [World.setCell] using h.lt,fun j v hv=>?_,fun i=>by simpa using h.free i⟩
 by_cases e:j=1
 ·subst e
  have hv':v=.int .i64 (q:Int):=by simpa using hv.symm
  subst hv'
  exact cell_same _ h.t1
 ·rw [cell_other _ (fun r=>by injection r with _ r2 _;omega)]
  refine h.cells j v ?_
  match j,e,hv with
  | 0,_,hv=>exact hv
  | j+2,_,hv=>exact hv
theorem Tb.note (h:Tb Z w W f sb v3 v4 v5 T t) (i:Nat) (hi:i < 20) (q:Int):Tb Z w (W.setCell ⟨T,2+i,none⟩ (.int .i64 q)) f sb v3 v4 v5 T ⟨t.pc,t.tk,nu t.x i q⟩:=by
 have hn:=note_cells (v:=q) h.notes hi
 refine ⟨h.far,by simpa [World.setCell] using h.lt,fun j v hv=>?_,fun i=>by simpa using h.free i⟩
 match j,hv with
 | 0,hv=>rw [cell_other _ (fun r=>by injection r with _ r2 _;omega)];exact h.cells 0 v hv
 | 1,hv=>rw [cell_other _ (fun r=>by injection r with _ r2 _;omega)];exact h.cells 1 v hv
 | j+2,hv=>
  have:=hn j v hv
  rwa [show 2+j=0+(j+2) by omega] at this
def Done (Z:List (Nat×Obj)) (w:World) (f p sb N pl:Nat) (text:ByteArray) (here:List Thr) (v3:Value) (T:Nat) (r:Option Thr×Mc) (W':World):Prop:=
 ∃ v4 v5,Fg Z w W' f p sb N pl text here v3 v4 v5 r.2∧∃ t,Tb Z w W' f sb v3 v4 v5 T t∧∀ u,r.1=some u→t=u
theorem kind_cases {k:Nat} (h:k≤6):k=0∨k=1∨k=2∨k=3∨k=4∨k=5∨k=6:=by omega
theorem step_any (h:Fg Z w W f p sb N pl text here v3 v4 v5 s) (tb:Tb Z w W f sb v3 v4 v5 T t) (hcd:Cd w p g c n D cd) (ht:t.pc < n) (hA:s.ahead.length≤100000) (hL:s.left.length≤100000) :
  Calls Tryz.prog 244 #[.pointer (some ⟨f,0,none⟩),.pointer (some ⟨T,0,none⟩)] W fun e W'=>e=.returned (.bool (stepA cd text pl t s).1.isSome)∧Done Z w f p sb N pl text here v3 T (stepA cd text pl t s) W':=by
 have hC:=hcd.keep h.kp
 have hp:=hcd.hp
 have hg:=hcd.hg
 have hfl:=h.flo
 have hsl:=h.slo
 have hTl:=tb.far.lo
 have hk:=hC.k0 t.pc ht
 have ok:=hcd.ok t.pc ht
 have gT:T≠g:=by omega
 have pT:T≠p:=by omega
 have gf:g≠f:=by omega
 have same:∀ W',Kp [] W W'→Done Z w f p sb N pl text here v3 T (none,s) W':=fun W' k=>⟨v4,v5,h.keep k,t,tb.keep k,fun _ e=>(by cases e)⟩
 have goes:∀ k q,Done Z w f p sb N pl text here v3 T (some ⟨q,t.tk,t.x⟩,s) ((W.drewN k).setCell ⟨T,0,none⟩ (.int .i64 (q:Int))):=fun k q=>
  ⟨v4,v5,(h.keep (Kp.drewN [] W k)).other (S:=[T]) (Kp.setCell _ _ (by simp)) (fun T' e=>by rw [List.mem_singleton.1 e];exact tb.far),_,(tb.keep (Kp.drewN [] W k)).pc q,fun u e=>(by cases e;rfl)⟩
 rcases kind_cases ok.1 with e | e | e | e | e | e | e <;> rw [e] at hk
 ·by_cases hlt:pl < text.size
  ·by_cases hm:(cd t.pc).m (text[pl]).toNat=true
   ·have es:stepA cd text pl t s=(none,{ s with ahead:=s.ahead++[⟨(cd t.pc).nx,(cd t.pc).dp,t.x⟩] }):=by simp [stepA,e,hlt,hm]
    rw [es]
    refine (hit_any (B:=w.heap.size) h.c0 h.c1 h.c2 h.c4 (h.free 4) h.o4 h.kp.size (fun q=>(h.x4 f q.symm).1 rfl) (own_ne h.o4 hg) (fun q=>tb.far.n4 q.symm) hA hC.p0 tb.t0 tb.notes ht hk (hC.k1 _ ht) (hC.k4 _ ht) (hC.k5 _ ht) (hC.k6 _ ht) (hC.k7 _ ht) (hC.k8 _ ht) hlt hm).mono ?_
    rintro e' W' ⟨he,g',c',q1,q2,q3,q4⟩
    have h4:(Value.slice (some ⟨g',0,none⟩) (s.ahead.length+1) c').ownBlock≠some T:=fun q=>by
     have e:g'=T:=by simpa [Value.ownBlock] using q
     rcases q3 with r | r
     ·exact tb.far.n4 (e ▸ r)
     ·have:=tb.lt;omega
    exact ⟨he,_,v5,h.hit (t:=⟨(cd t.pc).nx,(cd t.pc).dp,t.x⟩) q1 q2 q3 q4,t,tb.stay (q4.block T tb.lt tb.far.nf (fun q=>tb.far.n4 q.symm)) q4.size h4 tb.far.n5,fun _ e=>(by cases e)⟩
   ·have hm':(cd t.pc).m (text[pl]).toNat=false:=by simpa using hm
    have es:stepA cd text pl t s=(none,s):=by simp [stepA,e,hlt,hm']
    rw [es]
    exact (step_byte_miss h.c0 h.c1 h.c2 hC.p0 tb.t0 ht hk (hC.k5 _ ht) (hC.k6 _ ht) (hC.k7 _ ht) (hC.k8 _ ht) hlt hm').mono fun e' W' ⟨he,k⟩=>⟨he,same W' k⟩
  ·have es:stepA cd text pl t s=(none,s):=by simp [stepA,e,hlt]
   rw [es]
   exact (step_byte_end h.c0 h.c1 h.c2 hC.p0 tb.t0 ht hk (decide_eq_false hlt)).mono fun e' W' ⟨he,k⟩=>⟨he,same W' k⟩
 ·by_cases h0:pl=0
  ·have es:stepA cd text pl t s=(some ⟨(cd t.pc).nx,t.tk,t.x⟩,s):=by simp [stepA,e,h0]
   rw [es]
   refine (begin_yes h.c0 (by rw [h.c2,h0]) hC.p0 tb.t0 ht hk (tb.free 0) (hC.k1 _ ht)).mono ?_
   rintro e' W' ⟨he,k,rfl⟩
   exact ⟨he,goes k _⟩
  ·have es:stepA cd text pl t s=(none,s):=by simp [stepA,e,h0]
   rw [es]
   exact (begin_no h.c0 h.c2 hC.p0 tb.t0 ht hk (by omega)).mono fun e' W' ⟨he,k⟩=>⟨he,same W' k⟩
 ·by_cases h0:pl=text.size
  ·have es:stepA cd text pl t s=(some ⟨(cd t.pc).nx,t.tk,t.x⟩,s):=by simp [stepA,e,h0]
   rw [es]
   refine (end_yes h.c0 h.c2 h.c1 hC.p0 tb.t0 ht hk (tb.free 0) (hC.k1 _ ht) h0).mono ?_
   rintro e' W' ⟨he,k,rfl⟩
   exact ⟨he,goes k _⟩
  ·have es:stepA cd text pl t s=(none,s):=by simp [stepA,e,h0]
   rw [es]
   exact (end_no h.c0 h.c2 h.c1 hC.p0 tb.t0 ht hk h0).mono fun e' W' ⟨he,k⟩=>⟨he,same W' k⟩
 ·have es:stepA cd text pl t s=(some ⟨(cd t.pc).nx,t.tk,nu t.x (cd t.pc).sl pl⟩,s):=by simp [stepA,e]
  rw [es]
  refine (note_any h.c0 h.c2 hC.p0 tb.t0 ht hk (tb.free 0) (hC.k1 _ ht) (hC.k3 _ ht) ok.2.2.2.1 (tb.notes _ _ (nf_get _ _ ok.2.2.2.1)) (tb.free _) gT tb.far.nf pT).mono ?_
  rintro e' W' ⟨he,k,rfl⟩
  have k1:Kp [T] (W.drewN k) (((W.drewN k).setCell ⟨T,2+(cd t.pc).sl,none⟩ (.int .i64 pl)).setCell ⟨T,0,none⟩ (.int .i64 (cd t.pc).nx)):=(Kp.setCell _ _ (by simp)).trans (Kp.setCell _ _ (by simp))
  exact ⟨he,v4,v5,(h.keep (Kp.drewN [] W k)).other k1 (fun T' e=>by rw [List.mem_singleton.1 e];exact tb.far),_,((tb.keep (Kp.drewN [] W k)).note _ ok.2.2.2.1 pl).pc _,fun u e=>(by cases e;rfl)⟩
 ·have es:stepA cd text pl t s=(some ⟨(cd t.pc).nx,t.tk,t.x⟩,{ s with left:=s.left++[⟨(cd t.pc).ot,t.tk,t.x⟩] }):=by simp [stepA,e]
  rw [es]
  refine (split_any (B:=w.heap.size) h.c0 h.c5 (h.free 5) h.o5 h.kp.size (fun q=>(h.x5 f q.symm).1 rfl) (own_ne h.o5 hg) (fun q=>tb.far.n5 q.symm) hL hC.p0 tb.t0 tb.t1 (tb.free 0) tb.notes ht hk (hC.k1 _ ht) (hC.k2 _ ht) gf tb.far.nf).mono ?_
  rintro e' W' ⟨he,w4,rfl,g',c',q1,q2,q3,q4⟩
  have h5:(Value.slice (some ⟨g',0,none⟩) (s.left.length+1) c').ownBlock≠some T:=fun q=>by
   have e:g'=T:=by simpa [Value.ownBlock] using q
   rcases q3 with r | r
   ·exact tb.far.n5 (e ▸ r)
   ·have:=tb.lt;omega
  have fg:=h.push (t:=⟨(cd t.pc).ot,t.tk,t.x⟩) q1 q2 q3 q4
  have tb4:Tb Z w w4 f sb v3 v4 (.slice (some ⟨g',0,none⟩) (s.left.length+1) c') T t:=tb.stay (q4.block T tb.lt tb.far.nf (fun q=>tb.far.n5 q.symm)) q4.size tb.far.n4 h5
  exact ⟨he,v4,_,fg.other (S:=[T]) (Kp.setCell _ _ (by simp)) (fun T' e=>by rw [List.mem_singleton.1 e];exact tb4.far),_,tb4.pc _,fun u e=>(by cases e;rfl)⟩
 ·by_cases h0:t.tk≤(cd t.pc).dp
  ·have es:stepA cd text pl t s=(none,s):=by simp [stepA,e,h0]
   rw [es]
   exact (turn_no h.c0 hC.p0 tb.t0 ht hk tb.t1 (hC.k4 _ ht) h0).mono fun e' W' ⟨he,k⟩=>⟨he,same W' k⟩
  ·have es:stepA cd text pl t s=(some ⟨(cd t.pc).nx,(cd t.pc).dp,t.x⟩,s):=by simp [stepA,e,h0]
   rw [es]
   refine (turn_yes h.c0 hC.p0 tb.t0 ht hk (tb.free 0) (hC.k1 _ ht) tb.t1 (tb.free 1) (hC.k4 _ ht) h0 gT tb.far.nf pT).mono ?_
   rintro e' W' ⟨he,k,rfl⟩
   have k1:Kp [T] (W.drewN k) (((W.drewN k).setCell ⟨T,1,none⟩ (.int .i64 (cd t.pc).dp)).setCell ⟨T,0,none⟩ (.int .i64 (cd t.pc).nx)):=(Kp.setCell _ _ (by simp)).trans (Kp.setCell _ _ (by simp))
   exact ⟨he,v4,v5,(h.keep (Kp.drewN [] W k)).other k1 (fun T' e=>by rw [List.mem_singleton.1 e];exact tb.far),_,((tb.keep (Kp.drewN [] W k)).take _).pc _,fun u e=>(by cases e;rfl)⟩
 ·have es:stepA cd text pl t s=(none,{ s with fd:=true,best:=nu t.x 1 pl }):=by simp [stepA,e]
  rw [es]
  refine (found_any h.c0 h.c2 h.c7 (fun j hj=>⟨by rw [h.best j _ (nf_get _ j hj)];rfl,h.free _⟩) h.free hC.p0 tb.t0 tb.notes ht hk).mono ?_
  rintro e' W' ⟨he,en⟩
  exact ⟨he,v4,v5,h.ends en,t,tb.stay (en.kept.block T tb.lt (by simpa using tb.far.nf)) en.kept.size tb.far.n4 tb.far.n5,fun _ e=>(by cases e)⟩
end
variable {Z:List (Nat×Obj)}
def seenAt (n D pl:Nat) (t:Thr):Nat:=(pl * n+t.pc) * (D+1)+t.tk
def drive (cd:Nat→In) (n D:Nat) (text:ByteArray) (pl:Nat):Nat→Option Thr→Mc→Option Mc
 | 0,_,_=>none
 | k+1,some t,s=>if s.sn (seenAt n D pl t)=true then drive cd n D text pl k none s else
   drive cd n D text pl k (stepA cd text pl t { s with sn:=more s.sn (seenAt n D pl t) }).1 (stepA cd text pl t { s with sn:=more s.sn (seenAt n D pl t) }).2
 | k+1,none,s=>match s.left.getLast? with
  | none=>some s
  | some t=>drive cd n D text pl k (some t) { s with left:=s.left.dropLast }
def GoesP (cd:Nat→In) (n D:Nat) (text:ByteArray) (pl:Nat) (o:Option Thr) (s s':Mc):Prop:=∃ k,drive cd n D text pl k o s=some s'
section
variable {cd:Nat→In} {n D:Nat} {text:ByteArray} {pl:Nat} {t:Thr} {s s':Mc}
theorem goes_seen (h:s.sn (seenAt n D pl t)=true) (g:GoesP cd n D text pl none s s'):GoesP cd n D text pl (some t) s s':=by
 obtain ⟨k,hk⟩:=g
 refine ⟨k+1,?_⟩
 rw [drive,if_pos h];exact hk
theorem goes_step (h:¬ s.sn (seenAt n D pl t)=true)
  (g:GoesP cd n D text pl (stepA cd text pl t { s with sn:=more s.sn (seenAt n D pl t) }).1 (stepA cd text pl t { s with sn:=more s.sn (seenAt n D pl t) }).2 s'):GoesP cd n D text pl (some t) s s':=by
 obtain ⟨k,hk⟩:=g
 refine ⟨k+1,?_⟩
 rw [drive,if_neg h];exact hk
theorem goes_pop {l:List Thr} (h:s.left=l++[t]) (g:GoesP cd n D text pl (some t) { s with left:=l } s'):GoesP cd n D text pl none s s':=by
 obtain ⟨k,hk⟩:=g
 refine ⟨k+1,?_⟩
 have e1:s.left.getLast? = some t:=by rw [h];simp
 have e2:s.left.dropLast=l:=by rw [h];simp
 rw [drive,e1,e2];exact hk
theorem goes_pop_inv {l:List Thr} (h:s.left=l++[t]) (g:GoesP cd n D text pl none s s'):GoesP cd n D text pl (some t) { s with left:=l } s':=by
 obtain ⟨k,hk⟩:=g
 have e1:s.left.getLast? = some t:=by rw [h];simp
 have e2:s.left.dropLast=l:=by rw [h];simp
 match k,hk with
 | k+1,hk=>
  rw [drive,e1,e2] at hk
  exact ⟨k,hk⟩
theorem goes_done (h:s.left=[]):GoesP cd n D text pl none s s:=⟨1,by rw [drive,h];rfl⟩
end
def uns (sn:Nat→Bool) (v:Nat):Nat→Nat
 | 0=>0
 | k+1=>uns sn v k+(if sn (v+k)=true then 0 else 1)
theorem uns_far (sn:Nat→Bool) (v i:Nat):∀ N,N≤i→uns (more sn (v+i)) v N=uns sn v N
 | 0,_=>rfl
 | k+1,h=>by
  have e:more sn (v+i) (v+k)=sn (v+k):=by
   have:(v+k == v+i)=false:=by rw [beq_eq_false_iff_ne];omega
   simp [more,this]
  rw [uns,uns,uns_far sn v i k (by omega),e]
theorem uns_mark (sn:Nat→Bool) (v i:Nat) (hne:¬ sn (v+i)=true):∀ N,i < N→uns (more sn (v+i)) v N+1=uns sn v N
 | k+1,h=>by
  by_cases e:i=k
  ·subst e
   have e1:more sn (v+i) (v+i)=true:=by simp [more]
   rw [uns,uns,uns_far sn v i i (Nat.le_refl _),e1,if_pos rfl,if_neg hne]
  ·have e1:more sn (v+i) (v+k)=sn (v+k):=by
    have:(v+k == v+i)=false:=by rw [beq_eq_false_iff_ne];omega
    simp [more,this]
   have:=uns_mark sn v i hne k (by omega)
   rw [uns,uns,e1];omega
theorem uns_le (sn:Nat→Bool) (v:Nat):∀ N,uns sn v N≤N
 | 0=>Nat.le_refl _
 | k+1=>by
  have:=uns_le sn v k
  rw [uns];split <;> omega
def isAt (w:World) (sb x:Nat):Bool:=match w.cell? ⟨sb,x / 64,none⟩ with
 | some (.int _ v)=>v.toNat.testBit (x % 64)
 | _=>false
def unsW (w:World) (sb v:Nat):Nat→Nat
 | 0=>0
 | k+1=>unsW w sb v k+(if isAt w sb (v+k)=true then 0 else 1)
def leftW (w:World) (f:Nat):Nat:=match w.cell? ⟨f,5,none⟩ with
 | some (.slice _ n _)=>n
 | _=>0
theorem isAt_eq {W:World} {sb x:Nat} {sn:Nat→Bool} (h:W.cell? ⟨sb,x / 64,none⟩=some (.int .u64 (wd sn (x / 64)))):isAt W sb x=sn x:=by
 unfold isAt
 rw [h]
 show (Int.toNat (wd sn (x / 64):Int)).testBit (x % 64)=_
 rw [Int.toNat_natCast,wd_bit,Nat.div_add_mod,decide_eq_true (Nat.mod_lt _ (by decide)),Bool.true_and]
theorem unsW_eq {W:World} {sb:Nat} {sn:Nat→Bool} (v:Nat):∀ N,(∀ i,i < N→W.cell? ⟨sb,(v+i) / 64,none⟩=some (.int .u64 (wd sn ((v+i) / 64))))→unsW W sb v N=uns sn v N
 | 0,_=>rfl
 | k+1,h=>by
  rw [unsW,uns,unsW_eq v k (fun i hi=>h i (by omega)),isAt_eq (h k (by omega))]
section
variable {w W W':World} {f p sb N pl:Nat} {text:ByteArray} {here:List Thr} {v3 v4 v5:Value} {s:Mc}
theorem Fg.uns (h:Fg Z w W f p sb N pl text here v3 v4 v5 s) (v M:Nat) (hM:v+M≤64 * N):unsW W sb v M=Go.Proofs.YtnfglkdkmcocnaaGreatDoor.uns s.sn v M:=unsW_eq v M (fun i hi=>(h.seen _ (by omega)).1)
theorem own_formP {base size n:Nat} {e:TypeId} {v:Value} {xs:List Value} (h:W.ownsRow base e size v n xs):(v=.slice none 0 0∧n=0)∨∃ g c,v=.slice (some ⟨g,0,none⟩) n c:=by
 rcases h.2 with q | ⟨g,cap,cur,q,_⟩
 ·exact .inl q
 ·exact .inr ⟨g,cap,q⟩
theorem Fg.left (h:Fg Z w W f p sb N pl text here v3 v4 v5 s):leftW W f=s.left.length:=by
 unfold leftW
 rw [h.c5]
 rcases own_formP h.o5 with ⟨q,q2⟩ | ⟨g,c,q⟩
 ·rw [q,q2]
 ·rw [q]
end
section
variable {w W:World} {f p g c n D sb N pl T:Nat} {text:ByteArray} {here:List Thr} {v3 v4 v5:Value} {s:Mc} {cd:Nat→In} {t:Thr}
theorem seenAt_eq (n D pl:Nat) (t:Thr):seenAt n D pl t=pl * (n * (D+1))+(t.pc * (D+1)+t.tk):=by
 unfold seenAt;rw [Nat.add_mul,Nat.mul_assoc,Nat.add_assoc]
theorem at_lt {n D:Nat} {t:Thr} (ht:t.pc < n) (hk:t.tk≤D):t.pc * (D+1)+t.tk < n * (D+1):=by
 have:=Nat.mul_le_mul_right (D+1) (show t.pc+1≤n from ht)
 rw [Nat.add_mul,Nat.one_mul] at this
 omega
theorem seenAt_lt {n D pl L:Nat} {t:Thr} (ht:t.pc < n) (hk:t.tk≤D) (hpl:pl≤L):seenAt n D pl t < (L+1) * (n * (D+1)):=by
 rw [seenAt_eq]
 have h1:=at_lt ht hk
 have h2:=Nat.mul_le_mul_right (n * (D+1)) hpl
 rw [Nat.add_mul,Nat.one_mul]
 omega
theorem first_any (h:Fg Z w W f p sb N pl text here v3 v4 v5 s) (tb:Tb Z w W f sb v3 v4 v5 T t) (hcd:Cd w p g c n D cd) (ht:t.pc < n) (hk:t.tk≤D) (hN:(text.size+1) * (n * (D+1))≤64 * N) (hb:N≤1000000) (hpl:pl≤text.size) :
  Calls Tryz.prog 243 #[.pointer (some ⟨f,0,none⟩),.pointer (some ⟨T,0,none⟩)] W fun e W'=>
   (s.sn (seenAt n D pl t)=true∧e=.returned (.bool false)∧Fg Z w W' f p sb N pl text here v3 v4 v5 s∧Tb Z w W' f sb v3 v4 v5 T t) ∨
   (¬ s.sn (seenAt n D pl t)=true∧e=.returned (.bool true)∧Fg Z w W' f p sb N pl text here v3 v4 v5 { s with sn:=more s.sn (seenAt n D pl t) }∧Tb Z w W' f sb v3 v4 v5 T t):=by
 have hC:=hcd.keep h.kp
 have hx:=seenAt_lt ht hk hpl
 have hlt:seenAt n D pl t < 64 * N:=Nat.lt_of_lt_of_le hx hN
 have hix:seenAt n D pl t / 64 < N:=by omega
 have q:=h.seen _ hix
 have hD:D+1≤64 * N:=by
  refine Nat.le_trans ?_ hN
  have h1:=Nat.mul_le_mul_right (D+1) (show 1≤n by omega)
  have h2:=Nat.mul_le_mul_right (n * (D+1)) (show 1≤text.size+1 by omega)
  omega
 have hm2:(pl * n+t.pc) * (D+1)≤64 * N:=by unfold seenAt at hlt;omega
 have hm1:pl * n+t.pc≤64 * N:=by
  have:=Nat.mul_le_mul_left (pl * n+t.pc) (show 1≤D+1 by omega)
  omega
 have hm0:pl * n≤64 * N:=by omega
 by_cases hs:s.sn (seenAt n D pl t)=true
 ·refine (first_no (v:=(wd s.sn (seenAt n D pl t / 64):Int)) (dp:=D) (dp1:=D+1) (m0:=pl * n) (m1:=pl * n+t.pc) (m2:=(pl * n+t.pc) * (D+1)) (tk:=t.tk) (x:=seenAt n D pl t) (pl:=pl) (N:=N) h.c0 h.c2 h.c6 hC.p0 hC.p3 tb.t0 tb.t1 q.1 hix (by omega) (by push_cast;rfl) (by push_cast;rfl) (by push_cast;rfl) (by push_cast;rfl) (by unfold seenAt;push_cast;rfl) (by omega) (by omega) (by omega) (by omega) (by omega) (and_yes hs)).mono ?_
  rintro e W' ⟨he,k⟩
  exact .inl ⟨hs,he,h.keep k,tb.keep k⟩
 ·refine (first_yes (v:=(wd s.sn (seenAt n D pl t / 64):Int)) (dp:=D) (dp1:=D+1) (m0:=pl * n) (m1:=pl * n+t.pc) (m2:=(pl * n+t.pc) * (D+1)) (tk:=t.tk) (x:=seenAt n D pl t) (pl:=pl) (N:=N) h.c0 h.c2 h.c6 hC.p0 hC.p3 tb.t0 tb.t1 q.1 q.2 hix (by omega) (by push_cast;rfl) (by push_cast;rfl) (by push_cast;rfl) (by push_cast;rfl) (by unfold seenAt;push_cast;rfl) (by omega) (by omega) (by omega) (by omega) (by omega) (and_no (by simpa using hs))).mono ?_
  rintro e W' ⟨he,k,rfl⟩
  have h2:=(h.keep (Kp.drewN [] W k)).mark _ hix
  rw [more_same]
  refine .inr ⟨hs,he,h2,?_⟩
  exact (tb.keep (Kp.drewN [] W k)).stay (Below.heap_setCell _ _ _ _ tb.far.ns) (by simp [World.setCell]) tb.far.n4 tb.far.n5
end
variable {Z:List (Nat×Obj)}
def okT (n D:Nat) (t:Thr):Prop:=t.pc < n∧t.tk≤D
structure OkM (n D:Nat) (s:Mc):Prop where
 ahead:∀ u∈s.ahead,okT n D u
 left:∀ u∈s.left,okT n D u
section
variable {w W W':World} {f p g c n D sb N pl T:Nat} {text:ByteArray} {here:List Thr} {v3 v4 v5:Value} {s:Mc} {cd:Nat→In} {t:Thr}
theorem stepA_facts (hcd:∀ a,a < n→(cd a).kind≤6∧(cd a).nx < n∧(cd a).ot < n∧(cd a).sl < 20∧(cd a).dp≤D) (ht:okT n D t) (hs:OkM n D s) :
  (stepA cd text pl t s).2.sn=s.sn∧(stepA cd text pl t s).2.ahead.length+(stepA cd text pl t s).2.left.length≤s.ahead.length+s.left.length+1∧OkM n D (stepA cd text pl t s).2∧∀ u,(stepA cd text pl t s).1=some u→okT n D u:=by
 have ok:=hcd t.pc ht.1
 have hT:∀ x,okT n D ⟨(cd t.pc).nx,t.tk,x⟩:=fun x=>⟨ok.2.1,ht.2⟩
 have hT2:∀ x,okT n D ⟨(cd t.pc).nx,(cd t.pc).dp,x⟩:=fun x=>⟨ok.2.1,ok.2.2.2.2⟩
 have hT3:∀ x,okT n D ⟨(cd t.pc).ot,t.tk,x⟩:=fun x=>⟨ok.2.2.1,ht.2⟩
 have plain:s.sn=s.sn∧s.ahead.length+s.left.length≤s.ahead.length+s.left.length+1∧OkM n D s∧∀ u,(none:Option Thr)=some u→okT n D u:=⟨rfl,by omega,hs,fun _ e=>by cases e⟩
 have go:∀ v,okT n D v→s.sn=s.sn∧s.ahead.length+s.left.length≤s.ahead.length+s.left.length+1∧OkM n D s∧∀ u,(some v:Option Thr)=some u→okT n D u:=fun v hv=>⟨rfl,by omega,hs,fun u e=>by cases e;exact hv⟩
 have snoc:∀ (l:List Thr) v,(∀ u∈l,okT n D u)→okT n D v→∀ u∈l++[v],okT n D u:=fun l v hl hv u hu=>by
  rcases List.mem_append.1 hu with e | e
  ·exact hl u e
  ·rw [List.mem_singleton.1 e];exact hv
 rcases kind_cases ok.1 with e | e | e | e | e | e | e
 ·by_cases hlt:pl < text.size
  ·by_cases hm:(cd t.pc).m (text[pl]).toNat=true
   ·simp only [stepA,e,hlt,hm,if_true,dif_pos]
    exact ⟨trivial,by simp;omega,⟨snoc _ _ hs.ahead (hT2 _),hs.left⟩,fun _ e=>by cases e⟩
   ·simp only [stepA,e,hlt,hm,if_true,dif_pos]
    simpa using plain
  ·simp only [stepA,e,hlt,if_true,dif_neg,not_false_iff]
   simpa using plain
 ·by_cases h0:pl=0
  ·have es:stepA cd text pl t s=(some ⟨(cd t.pc).nx,t.tk,t.x⟩,s):=by simp [stepA,e,h0]
   rw [es];exact go _ (hT _)
  ·have es:stepA cd text pl t s=(none,s):=by simp [stepA,e,h0]
   rw [es];exact plain
 ·by_cases h0:pl=text.size
  ·have es:stepA cd text pl t s=(some ⟨(cd t.pc).nx,t.tk,t.x⟩,s):=by simp [stepA,e,h0]
   rw [es];exact go _ (hT _)
  ·have es:stepA cd text pl t s=(none,s):=by simp [stepA,e,h0]
   rw [es];exact plain
 ·have es:stepA cd text pl t s=(some ⟨(cd t.pc).nx,t.tk,nu t.x (cd t.pc).sl pl⟩,s):=by simp [stepA,e]
  rw [es];exact go _ (hT _)
 ·have es:stepA cd text pl t s=(some ⟨(cd t.pc).nx,t.tk,t.x⟩,{ s with left:=s.left++[⟨(cd t.pc).ot,t.tk,t.x⟩] }):=by simp [stepA,e]
  rw [es]
  exact ⟨rfl,by simp;omega,⟨hs.ahead,snoc _ _ hs.left (hT3 _)⟩,fun u q=>by cases q;exact hT _⟩
 ·by_cases h0:t.tk≤(cd t.pc).dp
  ·have es:stepA cd text pl t s=(none,s):=by simp [stepA,e,h0]
   rw [es];exact plain
  ·have es:stepA cd text pl t s=(some ⟨(cd t.pc).nx,(cd t.pc).dp,t.x⟩,s):=by simp [stepA,e,h0]
   rw [es];exact go _ (hT2 _)
 ·have es:stepA cd text pl t s=(none,{ s with fd:=true,best:=nu t.x 1 pl }):=by simp [stepA,e]
  rw [es]
  exact ⟨rfl,by simp,⟨hs.ahead,hs.left⟩,fun _ e=>by cases e⟩
theorem stepA_left:(stepA cd text pl t s).2.left.length≤s.left.length+1:=by
 unfold stepA
 dsimp only
 split
 ·split
  ·split <;> simp
  ·simp
 ·split
  ·split <;> simp
  ·split
   ·split <;> simp
   ·split
    ·simp
    ·split
     ·simp
     ·split
      ·split <;> simp
      ·simp
theorem own_prefix {base size k gg cc:Nat} {e:TypeId} {xs ys:List Value} (h:W.ownsRow base e size (.slice (some ⟨gg,0,none⟩) (k+1) cc) (k+1) (xs++ys)) (hx:xs.length=k * size):W.ownsRow base e size (.slice (some ⟨gg,0,none⟩) k cc) k xs:=by
 refine ⟨hx,?_⟩
 rcases h.2 with ⟨q,_⟩ | ⟨g',cap,cur,q1,q2,q3,q4,q5,q6,q7⟩
 ·cases q
 ·simp at q1
  obtain ⟨rfl,rfl⟩:=q1
  refine .inr ⟨gg,cc,cur,rfl,q2,q3,by omega,q5,q6,?_⟩
  have e1:=congrArg (List.take (k * size)) q7
  rw [List.take_take,List.take_left' hx,Nat.min_eq_left (Nat.mul_le_mul_right _ (by omega))] at e1
  exact e1
theorem Fg.pop {l:List Thr} {tl:Thr} {g5 q5:Nat} (h:Fg Z w W f p sb N pl text here v3 v4 (.slice (some ⟨g5,0,none⟩) (l.length+1) q5) s) (hl:s.left=l++[tl]) :
  Fg Z w (W.setCell ⟨f,5,none⟩ (.slice (some ⟨g5,0,none⟩) l.length q5)) f p sb N pl text here v3 v4 (.slice (some ⟨g5,0,none⟩) l.length q5) { s with left:=l }:=by
 have k:Kp [f] W (W.setCell ⟨f,5,none⟩ (.slice (some ⟨g5,0,none⟩) l.length q5)):=Kp.setCell _ _ (by simp)
 have cf:∀ i,i≠5→(W.setCell ⟨f,5,none⟩ (.slice (some ⟨g5,0,none⟩) l.length q5)).cell? ⟨f,i,none⟩=W.cell? ⟨f,i,none⟩:=fun i hi=>cell_other _ (fun e=>by injection e with _ e2 _;exact hi e2.symm)
 have ob:∀ j,j≠f→(W.setCell ⟨f,5,none⟩ (.slice (some ⟨g5,0,none⟩) l.length q5)).heap[j]? = W.heap[j]?:=fun j hj=>Below.heap_setCell _ _ _ _ hj
 have fz:∀ a,(W.setCell ⟨f,5,none⟩ (.slice (some ⟨g5,0,none⟩) l.length q5)).frozen? a=W.frozen? a:=fun a=>by simp
 have x5:=h.x5 g5 rfl
 have o5:=h.o5
 rw [hl,flat_snoc,List.length_append,List.length_singleton] at o5
 have o5':=own_prefix o5 (flat_len l)
 refine ⟨Kp.own (x:=f) ((h.kp.mono (by simp)).trans k) h.flo,h.flo,h.slo,h.ne,(cf _ (by omega)).trans h.c0,(cf _ (by omega)).trans h.c1,(cf _ (by omega)).trans h.c2,(cf _ (by omega)).trans h.c3,(cf _ (by omega)).trans h.c4,cell_same _ h.c5,(cf _ (by omega)).trans h.c6,(cf _ (by omega)).trans h.c7,fun j u hu=>(cf _ (by omega)).trans (h.best j u hu),fun j=>(fz _).trans (h.free j),Nat.lt_of_lt_of_le h.slt k.size,fun j hj=>?_,
  owns_of_block h.o3 (fun q hq _=>ob q (h.x3 q hq).1),owns_of_block h.o4 (fun q hq _=>ob q (h.x4 q hq).1),owns_of_block o5' (fun q hq _=>ob q ?_),h.x3,h.x4,h.x5,fun e he=>⟨(ob e.1 (h.fx e he).2.1).trans (h.fx e he).1,(h.fx e he).2⟩⟩
 ·have q:=h.seen j hj
  exact ⟨(World.cell?_of_block (w:=W) (ob sb h.ne)).trans q.1,(fz _).trans q.2⟩
 ·have e:g5=q:=by simpa [Value.ownBlock] using hq
  rw [←e];exact x5.1
end
