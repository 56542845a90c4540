import Derived.Test.YtnfglkdkmcocnaaGreatDoorR00
import Derived.Deep.MidRow
set_option maxRecDepth 100000
set_option maxHeartbeats 16000000
set_option linter.all false
namespace Go.Proofs.YtnfglkdkmcocnaaGreatDoor
open Go.RowKit
theorem nil_ahead_emit (v : Value) (w : World) : (nilAhead 477 302 v "ribbon/pattern.emit").run Tryz.prog w = .ok (some false) w := by kernel_rfl
abbrev ins0 (kind next other slot depth:Int):List Value:=
 [.int .i64 kind,.int .i64 next,.int .i64 other,.int .i64 slot,.int .i64 depth,.int .u64 0,.int .u64 0,.int .u64 0,.int .u64 0]
theorem ins0_eq (kind next other slot depth:Int):ins kind next other slot depth noBytes=ins0 kind next other slot depth:=by simp [wd_none]
theorem listAdd0 {L n:Nat} {xs:List Value} {d dp:Nat} {w:World} (h:Ls w L n xs d dp) (hn:n≤100000) (kind next other slot depth:Int) :
  Calls Tryz.prog 112 #[.pointer (some ⟨L,0,none⟩),.agg (ins0 kind next other slot depth).toArray] w fun e w'=>e=.returned (.int .i64 n)∧Ls w' L (n+1) (xs++ins0 kind next other slot depth) d dp∧Below L w w':=by
 have:=listAdd h hn kind next other slot depth noBytes
 rw [ins0_eq] at this
 exact this
structure Pt (B:Nat) (w:World) (p n begin groups deepest:Nat) (xs:List Value):Prop where
 lo:B≤p
 lt:p < w.heap.size
 code:∃ g c,w.cell? ⟨p,0,none⟩=some (.slice (some ⟨g,0,none⟩) n c)∧w.ownsRow B 232 9 (.slice (some ⟨g,0,none⟩) n c) n xs
 c1:w.cell? ⟨p,1,none⟩=some (.int .i64 begin)
 c2:w.cell? ⟨p,2,none⟩=some (.int .i64 groups)
 c3:w.cell? ⟨p,3,none⟩=some (.int .i64 deepest)
theorem ownsRow_lower {w:World} {base B size n:Nat} {e:TypeId} {v:Value} {xs:List Value} (h:w.ownsRow base e size v n xs) (hB:B≤base):w.ownsRow B e size v n xs:=by
 refine ⟨h.1,?_⟩
 rcases h.2 with q | ⟨g,cap,cur,q1,q2,q3⟩
 ·exact .inl q
 ·exact .inr ⟨g,cap,cur,q1,Nat.le_trans hB q2,q3⟩
theorem ownsRow_keep {w w':World} {S:List Nat} {base size n:Nat} {e:TypeId} {v:Value} {xs:List Value} (h:w.ownsRow base e size v n xs) (k:Kp S w w') (hS:∀ x,x∈S→x < base):w'.ownsRow base e size v n xs:=by
 refine ⟨h.1,?_⟩
 rcases h.2 with q | ⟨g,cap,cur,q1,q2,q3,q4⟩
 ·exact .inl q
 ·exact .inr ⟨g,cap,cur,q1,q2,(k.block g (lt_of_block q3) (fun hm=>by have:=hS g hm;omega)).trans q3,q4⟩
theorem Pt.keep {B:Nat} {w w':World} {p n begin groups deepest:Nat} {xs:List Value} {S:List Nat} (h:Pt B w p n begin groups deepest xs) (k:Kp S w w') (hS:∀ x,x∈S→x < B):Pt B w' p n begin groups deepest xs:=by
 obtain ⟨g,c,h1,h2⟩:=h.code
 have hp:p∉S:=fun hm=>by have:=hS p hm;have:=h.lo;omega
 exact ⟨h.lo,Nat.lt_of_lt_of_le h.lt k.size,⟨g,c,(k.cell h.lt hp).trans h1,ownsRow_keep h2 k hS⟩,(k.cell h.lt hp).trans h.c1,(k.cell h.lt hp).trans h.c2,(k.cell h.lt hp).trans h.c3⟩
theorem Kp.then_below {w a c:World} {B:Nat} (h:Kp [] w a) (b:Below B a c) (hB:w.heap.size≤B):Kp [] w c:=
 ⟨b.os.trans h.os,b.tape.trans h.tape,b.output.trans h.output,Nat.le_trans h.size b.size,fun k hk hn=>(b.block k (by omega)).trans (h.block k hk hn)⟩
structure PtR (B:Nat) (w:World) (p n:Nat) (begin:Int) (groups deepest:Nat) (xs:List Value):Prop where
 lo:B≤p
 lt:p < w.heap.size
 code:∃ g c,w.cell? ⟨p,0,none⟩=some (.slice (some ⟨g,0,none⟩) n c)∧w.ownsRow B 232 9 (.slice (some ⟨g,0,none⟩) n c) n xs
 c1:w.cell? ⟨p,1,none⟩=some (.int .i64 begin)
 c2:w.cell? ⟨p,2,none⟩=some (.int .i64 groups)
 c3:w.cell? ⟨p,3,none⟩=some (.int .i64 deepest)
theorem PtR.keep {B:Nat} {w w':World} {p n groups deepest:Nat} {begin:Int} {xs:List Value} {S:List Nat} (h:PtR B w p n begin groups deepest xs) (k:Kp S w w') (hS:∀ x,x∈S→x < B):PtR B w' p n begin groups deepest xs:=by
 have hn:p∉S:=fun e=>by have:=hS p e;have:=h.lo;omega
 obtain ⟨g,c,h1,h2⟩:=h.code
 exact ⟨h.lo,Nat.lt_of_lt_of_le h.lt k.size,⟨g,c,(k.cell h.lt hn).trans h1,ownsRow_keep h2 k hS⟩,(k.cell h.lt hn).trans h.c1,(k.cell h.lt hn).trans h.c2,(k.cell h.lt hn).trans h.c3⟩
theorem PtR.lower {B B':Nat} {w:World} {p n groups deepest:Nat} {begin:Int} {xs:List Value} (h:PtR B w p n begin groups deepest xs) (hB:B'≤B):PtR B' w p n begin groups deepest xs:=by
 obtain ⟨g,c,h1,h2⟩:=h.code
 exact ⟨Nat.le_trans hB h.lo,h.lt,⟨g,c,h1,ownsRow_lower h2 hB⟩,h.c1,h.c2,h.c3⟩
def Reads (src:ByteArray) (from_ groups n:Nat) (bg:Int) (deepest:Nat) (xs:List Value):Prop:=
 ∀ (w:World) (b:Nat),b≠4→Rd w b src from_ 0→Nm w →
  Calls Tryz.prog 111 #[.pointer (some ⟨b,0,none⟩)] w fun e w'=>∃ (V:Value) (sz:Nat),e=.returned (.iface 302 V)∧Rd w' b src src.size groups∧Kp [b] w w'∧sz≤300 ∧
   (∀ w2,Kp [] w' w2→Calls Tryz.prog 308 #[V] w2 fun e w3=>e=.returned (.int .i64 sz)∧Kp [] w2 w3) ∧
   (∀ w2 L,Kp [] w' w2→w'.heap.size≤L→∀ w4,Below L w2 w4→Ls w4 L 1 (ins0 6 0 0 0 0) 0 0 →
     Calls Tryz.prog 307 #[V,.pointer (some ⟨L,0,none⟩),.int .i64 0] w4 fun e w5=>e=.returned (.int .i64 bg)∧Ls w5 L n xs 0 deepest∧Below L w4 w5)
theorem read_gen {src:ByteArray} {fr groups n:Nat} {bg:Int} {deepest:Nat} {xs:List Value} {w:World} (hw:Nm w) (hs:src.size≤2000) (hf:fr≤src.size) (h1:src.size≤100+fr) (hn:0 < n) (hp:Reads src fr groups n bg deepest xs) :
  Calls Tryz.prog 63 #[.string src,.int .i64 (fr:Int)] w fun e w'=>∃ p,e=.returned (.pointer (some ⟨p,0,none⟩))∧PtR w.heap.size w' p n bg groups deepest xs∧Kp [] w w':=by
 have hb0:w.heap.size≠4:=by have:=hw.lt;omega
 obtain ⟨o,ho⟩:∃ o:Obj,o=.cells #[.string src,.int .i64 (fr:Int),.int .i64 2,.int .i64 0] 218:=⟨_,rfl⟩
 have k0:=Kp.alloc [] w o
 have r0:Rd (w.alloc o) w.heap.size src fr 0:=by
  rw [ho];exact ⟨by simp,hf,hs,by simp,by simp,by simp,by simp,fun i=>by simp⟩
 have hlen:IntKind.i64.wrap ((src.size:Int) - (fr:Int))=((src.size - fr:Nat):Int):=by rw [IntKind.wrap_i64];omega
 have hlen2:¬ (100:Int) < ((src.size - fr:Nat):Int):=by omega
 have hz0:(w.alloc o).heap.size=w.heap.size+1:=by simp
 go_enter Tryz.func63,Tryz.ntmps63
 go_wp2_with fail
 rw [←ho]
 refine (hp _ _ hb0 r0 (hw.keep k0 (by simp))).mono ?_
 rintro e w1 ⟨V,sz,rfl,r1,k1,hsz,hsize,hemit⟩
 have HE:=hid hemit
 clear hp hemit
 have hm:=size_of_branches
 have c2:=r1.c2
 go_wp2_with fail
 refine (hsize _ (Kp.refl _ _)).mono ?_
 rintro e w2 ⟨rfl,k2⟩
 have r2:=r1.keep k2 (by simp)
 have c2':=r2.c2
 have hz2:=k2.size
 have hcmp:¬ (300:Int) < sz:=by omega
 clear c2 hm hsize
 go_wp2_with fail
 obtain ⟨ol,hol⟩:∃ o:Obj,o=.cells #[.slice none 0 0,.int .i64 0,.int .i64 0] 223:=⟨_,rfl⟩
 have k3:=Kp.alloc [] w2 ol
 have l3:Ls (w2.alloc ol) w2.heap.size 0 [] 0 0:=by
  rw [hol];exact ⟨by simp,⟨_,by simp,World.ownsRow_nil _ _ _ _,.inl rfl⟩,by simp,by simp,fun i=>by simp⟩
 have hz3:(w2.alloc ol).heap.size=w2.heap.size+1:=by simp
 have r4:=r2.keep k3 (by simp)
 rw [←hol]
 have K3:Kp [] w (w2.alloc ol):=(Kp.own (x:=w.heap.size) ((k0.mono (by simp)).trans (k1.trans ((k2.mono (by simp)).trans (k3.mono (by simp))))) (Nat.le_refl _))
 have K13:=k2.trans k3
 generalize w2.alloc ol=w3 at *
 clear c2' k3 r2 hol
 have hm:=emit_of_branches
 have hna:=nil_ahead_emit
 have hmf:∀ (fn:Fn) (first cap:Array Value) (w:World),(Instr.makeFunc fn first cap).run Tryz.prog w=.ok (.func fn first cap) w:=fun _ _ _ _=>rfl
 have EM:Hid (∀ w4:World,Ls w4 w2.heap.size (0+1) ([]++ins0 6 0 0 0 0) 0 0→Below w2.heap.size w3.drew w4→Calls Tryz.prog 307 #[V,.pointer (some ⟨w2.heap.size,0,none⟩),.int .i64 0] w4 fun e w'=>e=.returned (.int .i64 bg)∧Ls w' w2.heap.size n xs 0 deepest∧Below w2.heap.size w4 w'):=hid (fun w4 l4 b4=>
  HE.out w3.drew w2.heap.size (K13.trans (Kp.drew _ _)) hz2 w4 b4 l4)
 go_region_with (first | (go_at_call 112;refine (listAdd0 (l3.keep (by exact Kp.drew _ _)) (by omega) 6 0 0 0 0).mono ?_;rintro e w4 ⟨rfl,l4,b4⟩) | (go_at_call 307;refine (EM.out w4 l4 b4).mono ?_;rintro e w5 ⟨rfl,l5,b5⟩))
 all_goals
  have hlt:w.heap.size < w2.heap.size:=Nat.lt_of_lt_of_le r1.lt hz2
  have g5:=((b5.cell (p:=⟨w.heap.size,3,none⟩) hlt).trans (b4.cell (p:=⟨w.heap.size,3,none⟩) hlt)).trans r4.c2
  obtain ⟨v5,hv5,ho5,hf5⟩:=l5.code
  have hex:∃ g c,v5=.slice (some ⟨g,0,none⟩) n c:=by
   rcases ho5.2 with ⟨_,h⟩ | ⟨g,c,_,h,_⟩
   ·omega
   ·exact ⟨g,c,h⟩
  obtain ⟨g,cc,hg⟩:=hex
  rw [hg] at hv5 ho5
  have d5:=l5.c2
  have HO5:=hid ho5
  have B5:=hid (b4.trans b5)
  have L5:=hid l5.lt
  clear ho5 hf5 hg l3 l4 l5 b4 b5 r4 r1 hm hna hmf
  go_wp2
  go_ret
  have K5:=(K3.trans (Kp.drew _ _)).then_below B5.out (Nat.le_of_lt hlt)
  refine ⟨w5.heap.size,rfl,⟨K5.size,by simp,⟨g,cc,by simp,ownsRow_lower (HO5.out.alloc _) (by omega)⟩,by simp,by simp,by simp⟩,?_⟩
  exact K5.trans (Kp.alloc _ _ _)
theorem run_append2 {P:Program} {w:World} {base:Nat} {t ty e:TypeId} {i:TypeInfo} {z:Value} {size bytes:Nat} (ht:P.underlying t=some (.slice e)) (hi:P.info? e=some i) (hz:i.zero=some z)
  (hsize:i.size=size) (hby:i.bytes=bytes) (hzs:z.cells.size=size) (hsz:0 < size)
  {v:Value} {n:Nat} {xs:List Value} (hown:w.ownsRow base e size v n xs)
  {a:Addr} {m c:Nat} {news:List Value} (hl:news.length=m * size) (hnews:∀ j u,news[j]? = some u→w.cell? (a.add j)=some u) (h1:∀ u∈news,u.oneCell'=true)
  (h63:n+m≤maxLen) (hbytes:(n+m) * bytes≤140737488355328) (hbase:base≤w.heap.size) (hm:0 < m) :
  ∃ g cap w',(Builtin.append_ #[t,t] ty #[v,.slice (some a) m c]).run P w=.ok (.slice (some ⟨g,0,none⟩) (n+m) cap) w'∧w'.ownsRow base e size (.slice (some ⟨g,0,none⟩) (n+m) cap) (n+m) (xs++news)∧w.grownBy w' v.ownBlock ∧
   (v.ownBlock=some g∨w.heap.size≤g):=by
 rcases hown.2 with ⟨hv,hn⟩ | ⟨g,cap,cur,hv,hbg,hg,hnc,hcm,hcs,htake⟩
 ·subst hv;subst hn
  have hxs:xs=[]:=List.eq_nil_of_length_eq_zero (by simpa using hown.1)
  subst hxs
  obtain ⟨v',w',hrun,r1,r2,_⟩:=run_append_own (P:=P) w w.heap.size t ty e i z size bytes ht hi hz hsize hby hzs hsz (.slice none 0 0) 0 [] (World.ownsRow_nil w _ e size) a m c news hl hnews h1 h63 hbytes (Nat.le_refl _)
  rcases r1.2 with ⟨_,h0⟩ | ⟨g,cap,cur,hv',hbg,_⟩
  ·omega
  ·subst hv'
   exact ⟨g,cap,w',hrun,ownsRow_lower r1 hbase,r2,.inr hbg⟩
 ·subst hv
  by_cases hroom:n+m≤cap
  ·obtain ⟨w',hrun,r1,r2⟩:=run_append_fits (P:=P) w base t ty e i size ht hi hsize g n cap xs hown a m c news hl hnews h1 hroom
   exact ⟨g,cap,w',hrun,r1,r2,.inl rfl⟩
  ·have hcell:∀ j u,xs[j]? = some u→w.cell? ((⟨g,0,none⟩:Addr).add j)=some u:=fun j u hu=>by
    have hj:j < n * size:=by rw [←hown.1];exact (List.getElem?_eq_some_iff.1 hu).1
    rw [Addr.add_mid,Nat.zero_add,hown.cellAt j hj];exact hu
   obtain ⟨v',w',hrun,r1,r2⟩:=run_append_arg_grows (P:=P) w t ty e i z size bytes ht hi hz hsize hby hzs hsz ⟨g,0,none⟩ n cap xs hown.1 hcell a m c news hl hnews (by omega) h63 hbytes
   rcases r1.2 with ⟨_,h0⟩ | ⟨g',cap',cur',hv',hbg',_⟩
   ·omega
   ·subst hv'
    exact ⟨g',cap',w',hrun,ownsRow_lower r1 hbase,⟨r2.os,r2.tape,r2.output,r2.size,fun k hk _=>r2.block k hk (by simp)⟩,.inr hbg'⟩
theorem step_append2 {P:Program} {ops:Array Oper} {o:Oper} {a:Act} {w:World} {K:Act→World→Prop} {Q:Exit→Act→World→Prop} {E:Prop}
  (hg:o.guard=none) (s x:Operand) (t:TypeId) (hop:o.op=Op.call { callee:=Callee.builtin Builtin.append,args:=#[s,x],argTypes:=#[t,t] })
  (base:Nat) (e:TypeId) (i:TypeInfo) (z:Value) (size bytes:Nat) (h1:P.underlying t=some (.slice e)) (h2:P.info? e=some i) (h3:i.zero=some z) (h4:i.size=size) (h5:i.bytes=bytes) (h6:z.cells.size=size) (h7:0 < size)
  (v:Value) (n:Nat) (xs:List Value) (hs:a.eval s=v) (hown:w.ownsRow base e size v n xs)
  (ad:Addr) (m c:Nat) (news:List Value) (hx:a.eval x=.slice (some ad) m c) (hn:news.length=m * size) (hc:∀ j u,news[j]? = some u→w.cell? (ad.add j)=some u) (h1c:∀ u∈news,u.oneCell'=true)
  (b1:n+m≤maxLen) (b2:(n+m) * bytes≤140737488355328) (hbase:base≤w.heap.size) (hm:0 < m)
  (hK:∀ g cap w',w'.ownsRow base e size (.slice (some ⟨g,0,none⟩) (n+m) cap) (n+m) (xs++news)→w.grownBy w' v.ownBlock→(v.ownBlock=some g∨w.heap.size≤g)→K (a.put o.dst (.slice (some ⟨g,0,none⟩) (n+m) cap)) w') :
  if Region.wanted o (yielded ops a.tmps)=true then Oper.wp P o a w K Q else E:=by
 have hw:Region.wanted o (yielded ops a.tmps)=true:=by simp [Region.wanted,hg]
 rw [if_pos hw]
 obtain ⟨g,cap,w',hrun,r1,r2,r3⟩:=run_append2 (P:=P) (ty:=o.type) h1 h2 h3 h4 h5 h6 h7 hown hn hc h1c b1 b2 hbase hm (c:=c)
 unfold Oper.wp
 simp [execOp,hop,resolve,invoke,builtin,hs,hx,hrun,Result.andThen]
 exact hK g cap w' r1 r2 r3
abbrev notesV (x:Int):List Value:=[.int .i64 x,.int .i64 (-1),.int .i64 (-1),.int .i64 (-1),.int .i64 (-1),.int .i64 (-1),.int .i64 (-1),.int .i64 (-1),.int .i64 (-1),.int .i64 (-1),.int .i64 (-1),.int .i64 (-1),.int .i64 (-1),.int .i64 (-1),.int .i64 (-1),.int .i64 (-1),.int .i64 (-1),.int .i64 (-1),.int .i64 (-1),.int .i64 (-1)]
def ar (k:Nat):Array Value:=(List.replicate k (Value.int .i64 (-1))++List.replicate (20 - k) (Value.int .i64 0)).toArray
theorem ar_get (k:Nat) (h:k < 20):(ar k)[k]? = some (.int .i64 0):=by
 unfold ar
 rw [List.getElem?_toArray,List.getElem?_append_right (by simp),List.getElem?_replicate,List.length_replicate,if_pos (by omega)]
theorem ar_set (k:Nat) (h:k < 20):(ar k).setIfInBounds k (.int .i64 (-1))=ar (k+1):=by
 unfold ar
 rw [List.setIfInBounds_toArray]
 congr 1
 rw [List.set_append_right _ _ (by simp),List.length_replicate,Nat.sub_self,show 20 - k=(20 - (k+1))+1 by omega,List.replicate_succ,List.set_cons_zero,List.replicate_succ',List.append_assoc]
 rfl
theorem results_row {P:Program} {fn:Func} {p:Tmp} {ty:TypeId} (h:fn.results=#[.cell p ty]) (tmps:Array Value) (w:World) (b o:Nat) (ht:tmps.getD p undef=.pointer (some ⟨b,o,none⟩)) (cs:List Value) (d:TypeDesc)
  (hc:w.rangeAt b o cs) (hu:P.underlying ty=some d) (hd:d.isRow=true) (hi:(P.info? ty).map (·.size)=some cs.length):(results fn tmps).run P w=.ok (.agg cs.toArray) w:=by
 have hl:=run_loadVar_mid (P:=P) w b o ty cs d hc hu hd hi
 have ht':tmps[p]?.getD undef=.pointer (some ⟨b,o,none⟩):=by simpa using ht
 simp only [results,h]
 simp [ht',asAddr,hl]
theorem Kp.setCells {S:List Nat} {b:Nat} (hb:b∈S):∀ (vs:List Value) (o:Nat) (w:World),Kp S w (w.setCells b o vs)
 | [],_,_=>Kp.refl _ _
 | v::vs,o,w=>(Kp.setCell w v (p:=⟨b,o,none⟩) hb).trans (Kp.setCells hb vs (o+1) _)
theorem Tryz.szNotes:(Tryz.prog.info? 237).map (·.size)=some 20:=by kernel_rfl
theorem range_new (W:World) (A:Array Value) (t:TypeId):(W.alloc (.cells A t)).rangeAt W.heap.size 0 A.toList:=by
 intro j v h
 rw [Nat.zero_add]
 simpa using h
theorem noted_any (x:Int) (w:World) :
  Calls Tryz.prog 165 #[.int .i64 x] w fun e w'=>e=.returned (.agg (notesV x).toArray)∧Kp [] w w':=by
 obtain ⟨Z,hZ⟩:∃ Z:Obj,Z=.cells #[.int .i64 0,.int .i64 0,.int .i64 0,.int .i64 0,.int .i64 0,.int .i64 0,.int .i64 0,.int .i64 0,.int .i64 0,.int .i64 0,.int .i64 0,.int .i64 0,.int .i64 0,.int .i64 0,.int .i64 0,.int .i64 0,.int .i64 0,.int .i64 0,.int .i64 0,.int .i64 0] 237:=⟨_,rfl⟩
 have hZ0:Z=.cells (ar 0) 237:=hZ
 go_enter Tryz.func165,Tryz.ntmps165
 go_wp2
 rw [←hZ]
 go_loopw [5] (fun v wr=>∃ k:Nat,k≤20∧v=.int .i64 k∧wr=(w.alloc Z).alloc (.cells (ar k) 237)) (fun v _=>20 - (intOf v).toNat)
 case atStart=>exact ⟨0,by omega,rfl,by rw [←hZ0]⟩
 case round=>
  obtain ⟨k,hk,rfl,rfl⟩:=hrel
  by_cases hlt:k < 20
  ·have hg:=ar_get k hlt
   have hs:=ar_set k hlt
   clear hZ hZ0
   go_wp2
   go_roundw
   case rel=>exact ⟨k+1,by omega,by go_num,rfl⟩
   case measure=>simp [intOf];omega
  ·have e:k=20:=by omega
   subst e
   obtain ⟨A0,hA0⟩:∃ A0,A0=ar 20:=⟨_,rfl⟩
   have hg:A0[0]? = some (.int .i64 (-1)):=by rw [hA0];rfl
   obtain ⟨A1,hA1⟩:∃ A1,A1=A0.setIfInBounds 0 (.int .i64 x):=⟨_,rfl⟩
   have hA2:A1=(notesV x).toArray:=by rw [hA1,hA0];rfl
   have hsz:A1.size=20:=by rw [hA2];rfl
   have hset:A0.setIfInBounds 0 (.int .i64 x)=A1:=hA1.symm
   obtain ⟨W,hW⟩:∃ W:World,W=(w.alloc Z).alloc (.cells A1 237):=⟨_,rfl⟩
   have hth:((w.alloc Z).alloc (.cells A1 237)).there w.heap.size 0 20:=by
    intro j hj
    rw [Nat.zero_add,hZ0]
    have e1:((w.alloc (.cells (ar 0) 237)).alloc (.cells A1 237)).cell? ⟨w.heap.size,j,none⟩=(w.alloc (.cells (ar 0) 237)).cell? ⟨w.heap.size,j,none⟩:=(Kp.alloc [] _ _).cell (by simp) (by simp)
    have e2:=range_new w (ar 0) 237 j (.int .i64 0) (by show (List.replicate 20 (Value.int .i64 0))[j]? = _;rw [List.getElem?_replicate,if_pos hj])
    rw [Nat.zero_add] at e2
    exact ⟨by rw [e1,e2];rfl,by simp [go_sem]⟩
   have HT:=hid hth
   have H2:=hid hA2
   have HS:=hid hsz
   clear hth hA2 hsz hA1 hZ hZ0 hW W
   rw [←hA0]
   clear hA0
   go_wp2_with (first | (refine wpList_load_mid rfl 237 (.tmp 3) rfl (w.heap.size+1) 0 rfl A1.toList _ (by have:=range_new (w.alloc Z) A1 237;simpa using this) Tryz.underlying237 rfl (by rw [Tryz.szNotes];simp [HS.out]) ?_) | (refine wpList_store_mid rfl 237 (.tmp 2) (.tmp 13) rfl w.heap.size 0 A1 rfl rfl (by rw [HS.out];exact HT.out) (by rw [Tryz.szNotes,HS.out]) (by rw [H2.out];simp [notesV,Value.oneCell']) ?_))
   have hr:=World.rangeAt_setCells_same ((w.alloc Z).alloc (.cells A1 237)) w.heap.size 0 A1.toList (by simp only [Array.length_toList,HS.out];exact HT.out)
   refine bodyPost_ret (results_row (p:=2) (ty:=237) (by rw [Tryz.results165]) _ _ w.heap.size 0 rfl A1.toList _ hr Tryz.underlying237 rfl (by rw [Tryz.szNotes];simp [HS.out])) rfl ⟨?_,?_⟩
   ·rw [H2.out]
   ·exact Kp.own (x:=w.heap.size) ((Kp.alloc _ _ _).trans ((Kp.alloc _ _ _).trans (Kp.setCells (by simp) _ _ _))) (Nat.le_refl _)
