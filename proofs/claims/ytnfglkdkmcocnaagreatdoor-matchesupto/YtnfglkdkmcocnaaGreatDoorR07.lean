import Derived.Test.YtnfglkdkmcocnaaGreatDoorR06
import Derived.Deep.WholeRow
set_option maxRecDepth 100000
set_option maxHeartbeats 16000000
set_option linter.all false
namespace Go.Proofs.YtnfglkdkmcocnaaGreatDoor
open Go.RowKit
variable {Z:List (Nat×Obj)}
abbrev z28:Array Value:=#[.pointer none,.string ⟨#[]⟩,.int .i64 0,.slice none 0 0,.slice none 0 0,.slice none 0 0,.slice none 0 0,.bool false,.int .i64 0,.int .i64 0,.int .i64 0,.int .i64 0,.int .i64 0,.int .i64 0,.int .i64 0,.int .i64 0,.int .i64 0,.int .i64 0,.int .i64 0,.int .i64 0,.int .i64 0,.int .i64 0,.int .i64 0,.int .i64 0,.int .i64 0,.int .i64 0,.int .i64 0,.int .i64 0]
abbrev fin28 (p:Nat) (text:ByteArray) (sb N:Nat):List Value:=[.pointer (some ⟨p,0,none⟩),.string text,.int .i64 0,.slice none 0 0,.slice none 0 0,.slice none 0 0,.slice (some ⟨sb,0,none⟩) N N,.bool false,.int .i64 0,.int .i64 0,.int .i64 0,.int .i64 0,.int .i64 0,.int .i64 0,.int .i64 0,.int .i64 0,.int .i64 0,.int .i64 0,.int .i64 0,.int .i64 0,.int .i64 0,.int .i64 0,.int .i64 0,.int .i64 0,.int .i64 0,.int .i64 0,.int .i64 0,.int .i64 0]
theorem fin28_one (p:Nat) (text:ByteArray) (sb N:Nat):∀ u∈fin28 p text sb N,u.oneCell'=true:=by
 intro u hu
 simp only [fin28,List.mem_cons,List.not_mem_nil,or_false] at hu
 rcases hu with h | h | h | h | h | h | h | h | h | h | h | h | h | h | h | h | h | h | h | h | h | h | h | h | h | h | h | h <;> subst h <;> rfl
theorem Tryz.szFin:(Tryz.prog.info? 239).map (·.size)=some 28:=by kernel_rfl
theorem Tryz.infoU:(Tryz.prog.info? 228).map (fun i=>(i.zero,i.size,i.bytes))=some (some (.int .u64 0),1,8):=by kernel_rfl
def zs (N:Nat):Array Value:=madeCells #[.int .u64 0] N
theorem zs_get (N i:Nat) (h:i < N):(zs N).toList[i]? = some (.int .u64 0):=by
 unfold zs;rw [toList_madeCells_one,List.getElem?_replicate,if_pos h]
theorem make_words (w:World) (N:Nat) (h:N≤1000000):(Instr.makeSlice 234 (.int .i64 (N:Int)) (.int .i64 (N:Int))).run Tryz.prog w=.ok (.slice (some ⟨w.heap.size,0,none⟩) N N) (w.alloc (.cells (zs N) 228)):=by
 obtain ⟨i,hi,hz0,hz1,hz2⟩:=info_parts Tryz.infoU
 have:=run_makeSlice (P:=Tryz.prog) w 234 228 i (.int .u64 0) (by kernel_rfl) hi hz0 .i64 .i64 N N (by omega) (by omega) (by rw [hz1];omega) (by rw [hz2];omega) (by omega)
 rw [hz1] at this
 simpa [zs,Value.cells] using this
theorem th28 (W:World):((W.alloc (.cells z28 239)).drew).there W.heap.size 0 28:=fun j hj=>by
 rw [Nat.zero_add]
 have h:=range_new W z28 239 j (z28.toList[j]'hj) (List.getElem?_eq_getElem hj)
 rw [Nat.zero_add] at h
 refine ⟨?_,?_⟩
 ·show ((W.alloc (.cells z28 239)).cell? _).isSome=true
  rw [h];rfl
 ·show (W.alloc (.cells z28 239)).frozen? _=false
  simp
theorem th28_old {w:World} {b k n:Nat} (h:(w.drew).there b k n) (o:Obj):((w.alloc o).drew).there b k n:=fun j hj=>by
 have q:=h j hj
 obtain ⟨u,hu⟩:=Option.isSome_iff_exists.1 q.1
 have hlt:=World.block_lt_of_cell? _ _ (show w.cell? ⟨b,k+j,none⟩=some u from hu)
 refine ⟨?_,?_⟩
 ·rw [cell_ad (w:=w) hu o];rfl
 ·exact ((Kp.alloc [] w o).frozen hlt (by simp)).trans q.2
theorem cell_new {w:World} {a:Addr} {v:Value} (h:w.cell? a=some v) (o:Obj):(w.alloc o).cell? a=some v:=
 ((Kp.alloc [] w o).cell (World.block_lt_of_cell? _ _ h) (by simp)).trans h
theorem news_new (W:World) (l:List Value) (t:TypeId) (a:Nat) (ha:a=W.heap.size):∀ j u,l[j]? = some u→(W.alloc (.cells l.toArray t)).cell? ((⟨a,0,none⟩:Addr).add j)=some u:=news_cells W l t a ha
theorem addr_add (b o j:Nat):(⟨b,o,none⟩:Addr).add j=⟨b,o+j,none⟩:=by
 unfold Addr.add
 split <;> simp_all
def placeW (w:World) (f:Nat):Nat:=match w.cell? ⟨f,2,none⟩ with
 | some (.int _ v)=>v.toNat
 | _=>0
def mc0:Mc:=⟨[],[],noBytes,false,fun _=>0⟩
def Runs (cd:Nat→In) (n D:Nat) (text:ByteArray) (bg:Nat):Nat→Nat→List Thr→Mc→Mc→Prop
 | 0,_,_,s,s'=>s'=s
 | k+1,pl,here,s,s'=>((if s.fd=true then here else here++[⟨bg,0,nz pl⟩])=[]∧s'=s) ∨
   ((if s.fd=true then here else here++[⟨bg,0,nz pl⟩])≠[]∧∃ s1,Sweep cd n D text pl (if s.fd=true then here else here++[⟨bg,0,nz pl⟩]) s s1∧Runs cd n D text bg k (pl+1) s1.ahead { s1 with ahead:=[] } s')
section
variable {w W W':World} {f p g c n D sb N pl:Nat} {text:ByteArray} {here:List Thr} {v3 v4 v5:Value} {s:Mc} {cd:Nat→In} {t:Thr}
theorem fg0_of {W0:World} (kp:Kp [] w W0) (flo:w.heap.size≤f) (slo:w.heap.size≤sb) (ne:sb≠f) (hth:W0.there f 0 28) (hfr:∀ i,W0.frozen? ⟨f,i,none⟩=false) (slt:sb < W0.heap.size)
  (hs:∀ i,i < N→W0.cell? ⟨sb,i,none⟩=some (.int .u64 0)∧W0.frozen? ⟨sb,i,none⟩=false) (hz:∀ e∈Z,W0.heap[e.1]? = some e.2∧e.1≠f∧e.1≠sb):Fg Z w (W0.setCells f 0 (fin28 p text sb N).toArray.toList) f p sb N 0 text [] (.slice none 0 0) (.slice none 0 0) (.slice none 0 0) mc0:=by
 have hr:=World.rangeAt_setCells_same W0 f 0 (fin28 p text sb N) hth
 have k:=Kp.setCells (S:=[f]) (b:=f) (by simp) (fin28 p text sb N).toArray.toList 0 W0
 refine ⟨Kp.own (x:=f) ((kp.mono (by simp)).trans k) flo,flo,slo,ne,hr 0 _ rfl,hr 1 _ rfl,hr 2 _ rfl,hr 3 _ rfl,hr 4 _ rfl,hr 5 _ rfl,hr 6 _ rfl,hr 7 _ rfl,fun j u hu=>?_,fun i=>?_,Nat.lt_of_lt_of_le slt k.size,fun i hi=>?_,World.ownsRow_nil _ _ _ _,World.ownsRow_nil _ _ _ _,World.ownsRow_nil _ _ _ _,fun k hk=>(by cases hk),fun k hk=>(by cases hk),fun k hk=>(by cases hk),fun e he=>⟨(k.block e.1 (lt_of_block (hz e he).1) (by simpa using (hz e he).2.1)).trans (hz e he).1,(hz e he).2.1,(hz e he).2.2,fun q=>(by cases q),fun q=>(by cases q),fun q=>(by cases q)⟩⟩
 ·have hj:j < 20:=(List.getElem?_eq_some_iff.1 hu).1
  have e:=hr (8+j) u (by
   show (fin28 p text sb N)[8+j]? = some u
   rw [←hu,nf_get _ j hj]
   match j,hj with
   | 0,_ | 1,_ | 2,_ | 3,_ | 4,_ | 5,_ | 6,_ | 7,_ | 8,_ | 9,_ | 10,_ | 11,_ | 12,_ | 13,_ | 14,_ | 15,_ | 16,_ | 17,_ | 18,_ | 19,_=>rfl
   | n+20,h=>exact absurd h (by omega))
  rwa [Nat.zero_add] at e
 ·rw [World.frozen?_setCells];exact hfr i
 ·have hn:sb∉[f]:=by simpa using ne
  refine ⟨?_,(k.frozen (p:=⟨sb,i,none⟩) slt hn).trans (hs i hi).2⟩
  show _=some (Value.int .u64 (wd noBytes i:Int))
  rw [wd_none]
  exact (k.cell (p:=⟨sb,i,none⟩) slt hn).trans (hs i hi).1
theorem Fg.place (h:Fg Z w W f p sb N pl text here v3 v4 v5 s) (q:Nat):Fg Z w (W.setCell ⟨f,2,none⟩ (.int .i64 (q:Int))) f p sb N q text here v3 v4 v5 s:=by
 have k:Kp [f] W (W.setCell ⟨f,2,none⟩ (.int .i64 (q:Int))):=Kp.setCell _ _ (by simp)
 have cf:∀ i,i≠2→(W.setCell ⟨f,2,none⟩ (.int .i64 (q:Int))).cell? ⟨f,i,none⟩=W.cell? ⟨f,i,none⟩:=fun i hi=>cell_other _ (fun e=>by injection e with _ e2 _;exact hi e2.symm)
 have ob:∀ k',k'≠f→(W.setCell ⟨f,2,none⟩ (.int .i64 (q:Int))).heap[k']? = W.heap[k']?:=fun k' hk=>Below.heap_setCell _ _ _ _ hk
 have fz:∀ a,(W.setCell ⟨f,2,none⟩ (.int .i64 (q:Int))).frozen? a=W.frozen? a:=fun a=>by simp
 refine ⟨Kp.own (x:=f) ((h.kp.mono (by simp)).trans k) h.flo,h.flo,h.slo,h.ne,(cf _ (by omega)).trans h.c0,(cf _ (by omega)).trans h.c1,cell_same _ h.c2,(cf _ (by omega)).trans h.c3,(cf _ (by omega)).trans h.c4,(cf _ (by omega)).trans h.c5,(cf _ (by omega)).trans h.c6,(cf _ (by omega)).trans h.c7,fun j u hu=>(cf _ (by omega)).trans (h.best j u hu),fun i=>(fz _).trans (h.free i),Nat.lt_of_lt_of_le h.slt k.size,fun i hi=>?_,
  owns_of_block h.o3 (fun k' hk _=>ob k' (h.x3 k' hk).1),owns_of_block h.o4 (fun k' hk _=>ob k' (h.x4 k' hk).1),owns_of_block h.o5 (fun k' hk _=>ob k' (h.x5 k' hk).1),h.x3,h.x4,h.x5,fun e he=>⟨(ob e.1 (h.fx e he).2.1).trans (h.fx e he).1,(h.fx e he).2⟩⟩
 have q:=h.seen i hi
 exact ⟨(World.cell?_of_block (w:=W) (ob sb h.ne)).trans q.1,(fz _).trans q.2⟩
theorem Fg.unfound (h:Fg Z w W f p sb N pl text here v3 v4 v5 s):Fg Z w (W.setCell ⟨f,7,none⟩ (.bool false)) f p sb N pl text here v3 v4 v5 { s with fd:=false }:=by
 have k:Kp [f] W (W.setCell ⟨f,7,none⟩ (.bool false)):=Kp.setCell _ _ (by simp)
 have cf:∀ i,i≠7→(W.setCell ⟨f,7,none⟩ (.bool false)).cell? ⟨f,i,none⟩=W.cell? ⟨f,i,none⟩:=fun i hi=>cell_other _ (fun e=>by injection e with _ e2 _;exact hi e2.symm)
 have ob:∀ k',k'≠f→(W.setCell ⟨f,7,none⟩ (.bool false)).heap[k']? = W.heap[k']?:=fun k' hk=>Below.heap_setCell _ _ _ _ hk
 have fz:∀ a,(W.setCell ⟨f,7,none⟩ (.bool false)).frozen? a=W.frozen? a:=fun a=>by simp
 refine ⟨Kp.own (x:=f) ((h.kp.mono (by simp)).trans k) h.flo,h.flo,h.slo,h.ne,(cf _ (by omega)).trans h.c0,(cf _ (by omega)).trans h.c1,(cf _ (by omega)).trans h.c2,(cf _ (by omega)).trans h.c3,(cf _ (by omega)).trans h.c4,(cf _ (by omega)).trans h.c5,(cf _ (by omega)).trans h.c6,cell_same _ h.c7,fun j u hu=>(cf _ (by omega)).trans (h.best j u hu),fun i=>(fz _).trans (h.free i),Nat.lt_of_lt_of_le h.slt k.size,fun i hi=>?_,
  owns_of_block h.o3 (fun k' hk _=>ob k' (h.x3 k' hk).1),owns_of_block h.o4 (fun k' hk _=>ob k' (h.x4 k' hk).1),owns_of_block h.o5 (fun k' hk _=>ob k' (h.x5 k' hk).1),h.x3,h.x4,h.x5,fun e he=>⟨(ob e.1 (h.fx e he).2.1).trans (h.fx e he).1,(h.fx e he).2⟩⟩
 have q:=h.seen i hi
 exact ⟨(World.cell?_of_block (w:=W) (ob sb h.ne)).trans q.1,(fz _).trans q.2⟩
theorem Fg.begun {w1 w2:World} {gh ch:Nat} (h:Fg Z w W f p sb N pl text here v3 v4 v5 s) (k1:Kp [] W w1) (hg:w1.grownBy w2 v3.ownBlock) (own:w2.ownsRow w.heap.size 274 22 (.slice (some ⟨gh,0,none⟩) (here.length+1) ch) (here.length+1) (flat here++tf t.pc t.tk t.x))
  (hor:v3.ownBlock=some gh∨w1.heap.size≤gh):Fg Z w (w2.setCell ⟨f,3,none⟩ (.slice (some ⟨gh,0,none⟩) (here.length+1) ch)) f p sb N pl text (here++[t]) (.slice (some ⟨gh,0,none⟩) (here.length+1) ch) v4 v5 s:=by
 have h1:=h.keep k1
 have hf:=h1.flt
 have hs:=h1.slt
 have lo:∀ k,v3.ownBlock=some k→w.heap.size≤k∧k < w1.heap.size:=h1.o3.lt
 have b2:∀ k,k < w1.heap.size→v3.ownBlock≠some k→w2.heap[k]? = w1.heap[k]?:=fun k hk hn=>hg.block k hk (fun e=>hn e.symm)
 have f3:v3.ownBlock≠some f:=fun e=>(h.x3 f e).1 rfl
 have s3:v3.ownBlock≠some sb:=fun e=>(h.x3 sb e).2.1 rfl
 have gf:gh≠f:=fun e=>by
  rcases hor with q | q
  ·exact (h.x3 gh q).1 e
  ·omega
 have gs:gh≠sb:=fun e=>by
  rcases hor with q | q
  ·exact (h.x3 gh q).2.1 e
  ·omega
 have g4:v4.ownBlock≠some gh:=fun e=>by
  rcases hor with q | q
  ·exact (h.x3 gh q).2.2.1 e
  ·have:=(h1.o4.lt gh e).2;omega
 have g5:v5.ownBlock≠some gh:=fun e=>by
  rcases hor with q | q
  ·exact (h.x3 gh q).2.2.2 e
  ·have:=(h1.o5.lt gh e).2;omega
 have c2:∀ i,w2.cell? ⟨f,i,none⟩=w1.cell? ⟨f,i,none⟩:=fun i=>World.cell?_of_block (w:=w1) (b2 f hf f3)
 have cf:∀ i,i≠3→(w2.setCell ⟨f,3,none⟩ (.slice (some ⟨gh,0,none⟩) (here.length+1) ch)).cell? ⟨f,i,none⟩=w1.cell? ⟨f,i,none⟩:=fun i hi=>(cell_other _ (fun e=>by injection e with _ e2 _;exact hi e2.symm)).trans (c2 i)
 have bl:∀ k,k < w1.heap.size→k≠f→v3.ownBlock≠some k→(w2.setCell ⟨f,3,none⟩ (.slice (some ⟨gh,0,none⟩) (here.length+1) ch)).heap[k]? = w1.heap[k]?:=fun k hk hkf hn=>(Below.heap_setCell _ _ _ _ hkf).trans (b2 k hk hn)
 have z2:w1.heap.size≤(w2.setCell ⟨f,3,none⟩ (.slice (some ⟨gh,0,none⟩) (here.length+1) ch)).heap.size:=by simpa [World.setCell] using hg.size
 refine ⟨⟨hg.os.trans h1.kp.os,hg.tape.trans h1.kp.tape,hg.output.trans h1.kp.output,Nat.le_trans h1.kp.size z2,fun k hk _=>?_⟩,h.flo,h.slo,h.ne,(cf _ (by omega)).trans h1.c0,(cf _ (by omega)).trans h1.c1,(cf _ (by omega)).trans h1.c2,cell_same _ ((c2 3).trans h1.c3),(cf _ (by omega)).trans h1.c4,(cf _ (by omega)).trans h1.c5,(cf _ (by omega)).trans h1.c6,(cf _ (by omega)).trans h1.c7,fun j u hu=>(cf _ (by omega)).trans (h1.best j u hu),fun i=>?_,Nat.lt_of_lt_of_le hs z2,fun i hi=>?_,
  ?_,owns_of_block h1.o4 (fun k hk hl=>bl k hl (h.x4 k hk).1 (fun e=>(h.x3 k e).2.2.1 hk)),owns_of_block h1.o5 (fun k hk hl=>bl k hl (h.x5 k hk).1 (fun e=>(h.x3 k e).2.2.2 hk)),fun k hk=>?_,h.x4,h.x5,fun e he=>?_⟩
 ·have hfk:k≠f:=by have:=h.flo;omega
  exact (bl k (Nat.lt_of_lt_of_le hk h1.kp.size) hfk (fun e=>by have:=(lo k e).1;omega)).trans (h1.kp.block k hk (by simp))
 ·have e:(w2.setCell ⟨f,3,none⟩ (.slice (some ⟨gh,0,none⟩) (here.length+1) ch)).frozen? ⟨f,i,none⟩=w2.frozen? ⟨f,i,none⟩:=by simp
  exact e.trans ((World.frozen?_of_block (w:=w1) (b2 f hf f3)).trans (h1.free i))
 ·have q:=h1.seen i hi
  have e:=bl sb hs h.ne s3
  exact ⟨(World.cell?_of_block (w:=w1) e).trans q.1,(World.frozen?_of_block (w:=w1) e).trans q.2⟩
 ·have:=ownsRow_setCell_far own (a:=⟨f,3,none⟩) (u:=.slice (some ⟨gh,0,none⟩) (here.length+1) ch) gf
  simpa [flat_snoc] using this
 ·have e:k=gh:=by simpa [Value.ownBlock] using hk.symm
  subst e
  exact ⟨gf,gs,g4,g5⟩
 ·have q:=h1.fx e he
  have l:=lt_of_block q.1
  refine ⟨(bl e.1 l q.2.1 q.2.2.2.1).trans q.1,q.2.1,q.2.2.1,fun r=>?_,q.2.2.2.2.1,q.2.2.2.2.2⟩
  have r:gh=e.1:=by simpa [Value.ownBlock] using r
  rcases hor with u | u
  ·exact q.2.2.2.1 (r ▸ u)
  ·omega
theorem step_last (hpl:text.size≤pl):(stepA cd text pl t s).2.ahead=s.ahead:=by
 have h0:¬ pl < text.size:=by omega
 unfold stepA
 dsimp only
 rw [dif_neg h0]
 repeat' split
 all_goals rfl
theorem drive_last (hpl:text.size≤pl):∀ (k:Nat) (o:Option Thr) (s s':Mc),drive cd n D text pl k o s=some s'→s'.ahead=s.ahead
 | 0,_,_,_,h=>by cases h
 | k+1,some t,s,s',h=>by
  rw [drive] at h
  split at h
  ·exact drive_last hpl k none s s' h
  ·exact (drive_last hpl k _ _ s' h).trans (step_last hpl)
 | k+1,none,s,s',h=>by
  rw [drive] at h
  split at h
  ·cases h;rfl
  ·rename_i t _
   exact drive_last hpl k (some t) { s with left:=s.left.dropLast } s' h
theorem sweep_last (hpl:text.size≤pl):∀ (l:List Thr) (s s':Mc),Sweep cd n D text pl l s s'→s'.ahead=s.ahead
 | [],s,s',h=>by rw [show s'=s from h]
 | t::l,s,s',h=>by
  rcases h with ⟨_,_,e⟩ | ⟨_,s1,⟨k,g⟩,q⟩
  ·rw [e]
  ·exact (sweep_last hpl l s1 s' q).trans (drive_last hpl k _ _ _ g)
end
theorem search_any {w W:World} {f p g c n D sb N pl0 bg fr:Nat} {text:ByteArray} {v3 v4 v5:Value} {s:Mc} {cd:Nat→In} (h:Fg Z w W f p sb N pl0 text [] v3 v4 v5 s) (hl:s.left=[]) (ha:s.ahead=[])
  (hcd:Cd w p g c n D cd) (p1:w.cell? ⟨p,1,none⟩=some (.int .i64 bg)) (hbg:bg < n) (hn:n * (D+1)≤9000) (hN:(text.size+1) * (n * (D+1))≤64 * N) (hNb:N≤1000000) (htx:text.size≤5000) (hfr:fr≤text.size+1) :
  Calls Tryz.prog 114 #[.pointer (some ⟨f,0,none⟩),.int .i64 fr] W fun e W'=>∃ (s':Mc) (pl':Nat) (u3 u4 u5:Value),e=.returned (.bool s'.fd)∧Fg Z w W' f p sb N pl' text [] u3 u4 u5 s'∧s'.left=[]∧s'.ahead=[]∧Runs cd n D text bg (text.size+1 - fr) fr [] { s with fd:=false } s':=by
 obtain ⟨Q,hQ⟩:∃ Q,Q=n * (D+1):=⟨_,rfl⟩
 rw [←hQ] at hn hN
 have HCD:=hid hcd
 have P1:=hid p1
 have HQ:=hid (And.intro hQ hN)
 have FS0:=hid h
 have hc7:=h.c7
 have hf7:=h.free 7
 have h2:=(h.unfound).c2
 have f2:=(h.unfound).free 2
 have HS:=hid (And.intro hl ha)
 clear hcd p1 hQ h hN hl ha
 go_enter Tryz.func114,Tryz.ntmps114
 go_wp2
 have FS:=hid (FS0.out.unfound.place fr)
 generalize (W.setCell ⟨f,7,none⟩ (.bool false)).setCell ⟨f,2,none⟩ (.int .i64 (fr:Int))=W0 at *
 clear FS0 hc7 hf7 h2 f2
 obtain ⟨ti,hi,hz0,hz1,hz2⟩:=info_parts Tryz.infoTh
 have HI:=hid hi
 have HZ:=hid (And.intro hz0 (And.intro hz1 hz2))
 clear hi hz0 hz1 hz2
 go_loopw [12] (fun _ wr=>∃ (pl:Nat) (here:List Thr) (a3 a4 a5:Value) (sk:Mc),Fg Z w wr f p sb N pl text here a3 a4 a5 sk∧sk.left=[]∧sk.ahead=[]∧OkM n D sk∧(∀ u∈here,okT n D u)∧here.length≤Q∧pl≤text.size+1∧(text.size < pl→here=[])∧fr≤pl∧Hid (∀ s',Runs cd n D text bg (text.size+1 - pl) pl here sk s'→Runs cd n D text bg (text.size+1 - fr) fr [] { s with fd:=false } s')) (fun _ wr=>text.size+2 - placeW wr f)
 case atStart=>exact ⟨fr,[],_,_,_,_,FS.out,HS.out.1,HS.out.2,⟨fun u hu=>(by rw [show ({ s with fd:=false }:Mc).ahead=s.ahead from rfl,HS.out.2] at hu;cases hu),fun u hu=>(by rw [show ({ s with fd:=false }:Mc).left=s.left from rfl,HS.out.1] at hu;cases hu)⟩,fun u hu=>(by cases hu),Nat.zero_le _,hfr,fun _=>rfl,Nat.le_refl _,hid (fun s' q=>q)⟩
 case round=>
  obtain ⟨pl,here,a3,a4,a5,sk,fg,lk,ak,okk,okh,hlen,hpl1,hend,hfp,back⟩:=hrel
  have FG:=hid fg
  have OKK:=hid (And.intro okk okh)
  have d1:=fg.c1
  have d2:=fg.c2
  have d7:=fg.c7
  have hpw:placeW wr f=pl:=by unfold placeW;rw [fg.c2];simp
  have HEND:=hid hend
  clear FS fg okk okh hend
  by_cases hpl:pl≤text.size
  ·have erun:text.size+1 - pl=(text.size - pl)+1:=by omega
   cases hfd:sk.fd with
   | false=>
    rw [hfd] at d7
    go_wp2_with fail
    go_quiet (fail)
    have FGd:=hid (FG.out.keep (Kp.drewN [] wr nq))
    have d7q:(wr.drewN nq).cell? ⟨f,7,none⟩=some (.bool false):=d7
    generalize wr.drewN nq=wr2 at *
    clear d2 d1 d7
    go_wp2_with fail
    clear d7q
    have d3a:=FGd.out.c3
    have d0a:=FGd.out.c0
    have d2a:=FGd.out.c2
    have e3a:=FGd.out.free 3
    have q1a:=(FGd.out.kp.cell (p:=⟨p,1,none⟩) HCD.out.hp (by simp)).trans P1.out
    refine wp_region_noPanic ?_
    refine wp_region_T (fun w':World=>w'.cell? ⟨f,3,none⟩=some a3∧w'.cell? ⟨f,0,none⟩=some (.pointer (some ⟨p,0,none⟩))∧w'.cell? ⟨p,1,none⟩=some (.int .i64 bg)∧w'.cell? ⟨f,2,none⟩=some (.int .i64 pl)) 22 (by kernel_rfl) ?_
    have hSa:(fun w':World=>w'.cell? ⟨f,3,none⟩=some a3∧w'.cell? ⟨f,0,none⟩=some (.pointer (some ⟨p,0,none⟩))∧w'.cell? ⟨p,1,none⟩=some (.int .i64 bg)∧w'.cell? ⟨f,2,none⟩=some (.int .i64 pl)) wr2.drew:=⟨d3a,d0a,q1a,d2a⟩
    iterate 16 (refine tkn (v:=?_) rfl (by kernel_rfl) (fun _ _ _ h=>h) ⟨rfl,fun w hSw=>?_⟩ hSa ?_;rotate_left;(focus ((try dsimp only at hSw);go_simp;(try with_reducible rfl)));(try simp only [List.getElem_toArray,List.getElem_cons_succ,List.getElem_cons_zero,Act.put,List.setIfInBounds_toArray,List.set_cons_zero,List.set_cons_succ]))
    refine wpAnyT_one (i:=16) (by kernel_rfl) rfl (fun K hK=>?_)
    go_simp
    refine (noted_any pl _).mono ?_
    rintro e w1a ⟨rfl,k1a⟩
    have S1a:(fun w':World=>w'.cell? ⟨f,3,none⟩=some a3∧w'.cell? ⟨f,0,none⟩=some (.pointer (some ⟨p,0,none⟩))∧w'.cell? ⟨p,1,none⟩=some (.int .i64 bg)∧w'.cell? ⟨f,2,none⟩=some (.int .i64 pl)) w1a:=⟨(k1a.cell (World.block_lt_of_cell? _ _ d3a) (by simp)).trans d3a,(k1a.cell (World.block_lt_of_cell? _ _ d0a) (by simp)).trans d0a,(k1a.cell (World.block_lt_of_cell? _ _ q1a) (by simp)).trans q1a,(k1a.cell (World.block_lt_of_cell? _ _ d2a) (by simp)).trans d2a⟩
    have g3a:w1a.frozen? ⟨f,3,none⟩=false:=(k1a.frozen (p:=⟨f,3,none⟩) (World.block_lt_of_cell? _ _ d3a) (by simp)).trans e3a
    have KKa:Hid (Kp [] wr2 w1a):=hid ((Kp.drew _ _).trans k1a)
    have F1a:=hid (FGd.out.keep KKa.out)
    clear k1a
    refine hK.out _ _ (.inr S1a) ?_
    clear hK K
    refine tk1 17 (v:=?_) rfl (by kernel_rfl) (fun _ _ _ h=>h) ⟨rfl,fun w hSw=>?_⟩ S1a ?_;rotate_left;· ((try dsimp only at hSw);go_simp;(try with_reducible rfl))
    (try simp only [List.getElem_toArray,List.getElem_cons_succ,List.getElem_cons_zero,Act.put,List.setIfInBounds_toArray,List.set_cons_zero,List.set_cons_succ])
    refine wpAnyT_one (i:=18) (by kernel_rfl) rfl (fun K hK=>?_)
    go_simp
    refine hK.out _ _ (.inr ⟨cell_new S1a.1 _,cell_new S1a.2.1 _,cell_new S1a.2.2.1 _,cell_new S1a.2.2.2 _⟩) ?_
    clear hK K
    refine wpAnyT_one (i:=19) (by kernel_rfl) rfl (fun K hK=>?_)
    refine step_append2 (by rfl) (.tmp 38) (.tmp 52) 235 (by rfl) w.heap.size 274 ti _ 22 176 Tryz.underlying235 HI.out HZ.out.1 HZ.out.2.1 HZ.out.2.2 rfl (by decide) a3 here.length (flat here) (by rfl) (F1a.out.o3.alloc _) ⟨w1a.heap.size,0,none⟩ 1 1 (tf bg (0:Nat) (nz pl)) (by rfl) rfl (news_new w1a _ _ _ rfl) (tf_one bg (0:Nat) (nz pl)) (by unfold maxLen;omega) (by omega) (Nat.le_trans F1a.out.kp.size (by simp)) (by decide) ?_
    intro gha cha w2a own2a grow2a or2a
    have fnea:some f≠a3.ownBlock:=fun e=>(F1a.out.x3 f e.symm).1 rfl
    have pnea:some p≠a3.ownBlock:=own_ne F1a.out.o3 HCD.out.hp
    have S2a:(fun w':World=>w'.cell? ⟨f,3,none⟩=some a3∧w'.cell? ⟨f,0,none⟩=some (.pointer (some ⟨p,0,none⟩))∧w'.cell? ⟨p,1,none⟩=some (.int .i64 bg)∧w'.cell? ⟨f,2,none⟩=some (.int .i64 pl)) w2a:=⟨grown_cell' grow2a fnea (cell_new S1a.1 _),grown_cell' grow2a fnea (cell_new S1a.2.1 _),grown_cell' grow2a pnea (cell_new S1a.2.2.1 _),grown_cell' grow2a fnea (cell_new S1a.2.2.2 _)⟩
    refine hK.out _ _ (.inr S2a) ?_
    clear hK K
    refine wpAnyT_one (i:=20) (by kernel_rfl) rfl (fun K hK=>?_)
    go_simp
    refine hK.out _ _ (.inr S2a) ?_
    clear hK K
    refine wpAnyT_one (i:=21) (by kernel_rfl) rfl (fun K hK=>?_)
    go_simp
    refine hK.out _ _ (.inr S2a) ?_
    clear hK K
    have s23a:=S2a.1
    have sf3a:w2a.frozen? ⟨f,3,none⟩=false:=(grown_free' grow2a (p:=⟨f,3,none⟩) fnea (World.block_lt_of_cell? _ _ (cell_new S1a.1 _))).trans (((Kp.alloc [] w1a _).frozen (World.block_lt_of_cell? _ _ S1a.1) (by simp)).trans g3a)
    have FT:=hid (FGd.out.begun (t:=⟨bg,0,nz pl⟩) (KKa.out.trans (Kp.alloc _ _ _)) grow2a own2a or2a)
    clear own2a grow2a or2a S2a S1a hSa d2a d0a d3a q1a fnea pnea F1a KKa
    refine wpAnyT_one (i:=22) (by kernel_rfl) rfl (fun K hK=>?_)
    go_simp
    refine hK.out _ _ (.inl rfl) ?_
    clear hK K
    refine wpAnyT_done (by kernel_rfl) ?_ _
    refine NoPanic.normal ?_
    generalize w2a.setCell ⟨f,3,none⟩ (.slice (some ⟨gha,0,none⟩) (here.length+1) cha)=W2 at *
    clear s23a sf3a g3a e3a
    have d3:=FT.out.c3
    go_wp2_with fail
    clear d3
    have okh1:∀ u∈(here++[(⟨bg,0,nz pl⟩:Thr)]),okT n D u:=fun u hu=>by
     rcases List.mem_append.1 hu with e | e
     ·exact OKK.out.2 u e
     ·rw [List.mem_singleton.1 e];exact ⟨hbg,Nat.zero_le _⟩
    have hl1:(here++[(⟨bg,0,nz pl⟩:Thr)]).length≤10000:=by simp;omega
    refine (goOn_any FT.out (by simp) lk HCD.out okh1 OKK.out.1 HQ.out.1 rfl HQ.out.2 hNb (by omega) hpl (by rw [ak];simp) hl1).mono ?_
    rintro e W3 ⟨rfl,b3,b4,b5,s1,fg1,l1,ok1,len1,sw1⟩
    have F1:=hid (And.intro fg1 (And.intro ok1 sw1))
    have d2:=fg1.c2
    have e2:=fg1.free 2
    clear fg1 ok1 sw1
    obtain ⟨pl1,hpl1'⟩:∃ pl1:Nat,pl1=pl+1:=⟨_,rfl⟩
    have hsum:(pl:Int)+1=(pl1:Int):=by omega
    have wsum:=wrap_i64_nat pl1 (by omega)
    have HP:=hid hpl1'
    clear hpl1'
    go_wp2_with fail
    have hpw1:placeW (W3.setCell ⟨f,2,none⟩ (.int .i64 (pl1:Int))) f=pl1:=by unfold placeW;rw [cell_same _ d2];simp
    refine ⟨⟨pl1,s1.ahead,b3,b4,b5,_,F1.out.1.place pl1,l1,rfl,⟨fun u hu=>(by cases hu),F1.out.2.1.left⟩,F1.out.2.1.ahead,by rw [ak] at len1;simpa using len1,by have:=HP.out;omega,fun hx=>?_,by have:=HP.out;omega,hid (fun s' q=>back.out s' ?_)⟩,?_⟩
    ·have:=HP.out
     exact (sweep_last (by omega) _ _ _ F1.out.2.2).trans ak
    ·rw [erun]
     refine .inr ⟨by simp [hfd],s1,by simpa [hfd] using F1.out.2.2,?_⟩
     rw [HP.out] at q
     rwa [show text.size+1 - (pl+1)=text.size - pl by omega] at q
    ·have:=HP.out
     rw [hpw1,hpw];omega
   | true=>
    rw [hfd] at d7
    cases here with
    | nil=>
     have o3:=FG.out.o3
     have d3:=FG.out.c3
     rcases own_formP o3 with ⟨e3,_⟩ | ⟨gg,cc,e3⟩
     all_goals
      rw [e3] at d3
      clear o3
      go_wp2_with fail
      go_quiet (fail)
      go_wp2_with fail
      go_ret
      exact ⟨sk,pl,a3,a4,a5,(by rw [hfd];rfl),FG.out.keep (Kp.drewN [] wr nq),lk,ak,back.out sk (by rw [erun];exact .inl ⟨by simp [hfd],rfl⟩)⟩
    | cons h0 hr=>
     have o3:=FG.out.o3
     have d3:=FG.out.c3
     rcases own_formP o3 with ⟨_,e3⟩ | ⟨gg,cc,e3⟩
     ·cases e3
     ·rw [e3,List.length_cons] at d3
      clear o3
      go_wp2_with fail
      go_quiet (fail)
      go_wp2_with fail
      clear d1 d2 d7 d3
      have okh1:∀ u∈(h0::hr),okT n D u:=OKK.out.2
      have hl1:(h0::hr).length≤10000:=by omega
      refine (goOn_any (FG.out.keep (Kp.drewN [] wr nq)) (by simp) lk HCD.out okh1 OKK.out.1 HQ.out.1 rfl HQ.out.2 hNb (by omega) hpl (by rw [ak];simp) hl1).mono ?_
      rintro e W3 ⟨rfl,b3,b4,b5,s1,fg1,l1,ok1,len1,sw2⟩
      have F1:=hid (And.intro fg1 (And.intro ok1 sw2))
      have d2:=fg1.c2
      have e2:=fg1.free 2
      clear fg1 ok1 sw2
      obtain ⟨pl1,hpl1'⟩:∃ pl1:Nat,pl1=pl+1:=⟨_,rfl⟩
      have hsum:(pl:Int)+1=(pl1:Int):=by omega
      have wsum:=wrap_i64_nat pl1 (by omega)
      have HP:=hid hpl1'
      clear hpl1'
      go_wp2_with fail
      have hpw1:placeW (W3.setCell ⟨f,2,none⟩ (.int .i64 (pl1:Int))) f=pl1:=by unfold placeW;rw [cell_same _ d2];simp
      refine ⟨⟨pl1,s1.ahead,b3,b4,b5,_,F1.out.1.place pl1,l1,rfl,⟨fun u hu=>(by cases hu),F1.out.2.1.left⟩,F1.out.2.1.ahead,by rw [ak] at len1;simpa using len1,by have:=HP.out;omega,fun hx=>?_,by have:=HP.out;omega,hid (fun s' q=>back.out s' ?_)⟩,?_⟩
      ·have:=HP.out
       exact (sweep_last (by omega) _ _ _ F1.out.2.2).trans ak
      ·rw [erun]
       refine .inr ⟨by simp [hfd],s1,by simpa [hfd] using F1.out.2.2,?_⟩
       rw [HP.out] at q
       rwa [show text.size+1 - (pl+1)=text.size - pl by omega] at q
      ·have:=HP.out
       rw [hpw1,hpw];omega
  ·have hple:pl=text.size+1:=by omega
   have hh:=HEND.out (by omega)
   subst hh
   have hb0:=hid (back.out sk (by rw [hple,Nat.sub_self];rfl))
   have HP:=hid hple
   clear hple
   obtain ⟨fdv,hfdv⟩:∃ b,sk.fd=b:=⟨_,rfl⟩
   rw [hfdv] at d7
   go_wp2_with fail
   go_quiet (fail)
   go_wp2_with fail
   go_ret
   exact ⟨sk,pl,a3,a4,a5,(by rw [hfdv];rfl),FG.out.keep (Kp.drewN [] wr nq),lk,ak,hb0.out⟩
