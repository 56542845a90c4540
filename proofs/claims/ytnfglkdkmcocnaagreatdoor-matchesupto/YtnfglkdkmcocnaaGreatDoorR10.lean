import Derived.Test.YtnfglkdkmcocnaaGreatDoorR08
import Derived.Test.YtnfglkdkmcocnaaGreatDoorR09
set_option maxRecDepth 100000
set_option maxHeartbeats 16000000
set_option linter.all false
namespace Go.Proofs.YtnfglkdkmcocnaaGreatDoor
open Go.RowKit
theorem escape_n {b:Nat} {src:ByteArray} {k g:Nat} (behind:ByteArray) {w:World} (hr:Rd w b src k g) (h:saw src k 110=true) :
  Calls Tryz.prog 287 #[.pointer (some ⟨b,0,none⟩),.string behind] w fun e w'=>e=.returned (.int .u8 10)∧Rd w' b src (k+1) g∧Kp [b] w w':=by
 go_enter Tryz.func287,Tryz.ntmps287
 go_wp2_with fail
 refine (take_yes 110 hr h).mono ?_
 rintro e w1 ⟨rfl,r1,k1⟩
 go_wp2_with fail
 go_ret
 exact ⟨rfl,r1,k1⟩
theorem escape_c {b:Nat} {src:ByteArray} {k g:Nat} (behind:ByteArray) {w:World} (hr:Rd w b src k g) (hk:k < src.size) (h1:saw src k 110=false) (h2:saw src k 116=false)
  {v:Int} (hix:Lib.indexByte behind.data.toList src[k]=v) (hv:0≤v) :
  Calls Tryz.prog 287 #[.pointer (some ⟨b,0,none⟩),.string behind] w fun e w'=>e=.returned (.int .u8 (src[k]).toNat)∧Rd w' b src (k+1) g∧Kp [b] w w':=by
 go_enter Tryz.func287,Tryz.ntmps287
 go_wp2_with fail
 refine (take_no 110 hr h1).mono ?_
 rintro e w1 ⟨rfl,r1,k1⟩
 go_wp2_with fail
 refine (take_no 116 r1 h2).mono ?_
 rintro e w2 ⟨rfl,r2,k2⟩
 have c0:=r2.c0
 have c1:=r2.c1
 have f1:=r2.free 1
 have hsm:=r2.small
 have he:((k:Int) == (src.size:Int))=false:=by simp;omega
 have hix':Lib.indexByte behind.data.toList ((src[k].toNat:Int)).toNat.toUInt8=v:=by simpa using hix
 have hv':¬ v < 0:=by omega
 go_wp2_with fail
 go_quiet (first | (go_at_call 163;exact ended_q r2 _) | (go_at_call 249;exact index_q _ _ hix' _ _))
 go_wp2
 go_quiet (fail)
 go_wp2
 go_ret
 exact ⟨rfl,((r2.drewN _).step hk).drewN _,k1.trans (k2.trans ((Kp.drewN _ _ _).trans ((Kp.setCell _ _ (by simp)).trans (Kp.drewN _ _ _))))⟩
def ByteOk (b:Nat) (src:ByteArray) (barred behind:ByteArray) (k l g x:Nat):Prop:=
 ∀ w:World,Rd w b src k g→Calls Tryz.prog 280 #[.pointer (some ⟨b,0,none⟩),.string barred,.string behind] w fun e w'=>e=.returned (.int .u8 x)∧Rd w' b src l g∧Kp [b] w w'
theorem byte_plain {b:Nat} {src:ByteArray} {k g:Nat} {barred behind:ByteArray} (hk:k < src.size) (h92:saw src k 92=false) (h10:saw src k 10=false) (hbar:Lib.indexByte barred.data.toList src[k] = -1) :
  ByteOk b src barred behind k (k+1) g (src[k]).toNat:=fun _ hr=>byteOf_plain barred behind hr hk h92 h10 hbar
theorem byte_n {b:Nat} {src:ByteArray} {k g:Nat} {barred behind:ByteArray} (h92:saw src k 92=true) (h:saw src (k+1) 110=true):ByteOk b src barred behind k (k+1+1) g 10:=by
 intro w hr
 go_enter Tryz.func280,Tryz.ntmps280
 go_wp2_with fail
 refine (take_yes 92 hr h92).mono ?_
 rintro e w1 ⟨rfl,r1,k1⟩
 go_wp2_with fail
 refine (escape_n behind r1 h).mono ?_
 rintro e w2 ⟨rfl,r2,k2⟩
 go_wp2_with fail
 go_ret
 exact ⟨rfl,r2,k1.trans k2⟩
theorem byte_c {b:Nat} {src:ByteArray} {k g:Nat} {barred behind:ByteArray} (h92:saw src k 92=true) (hk:k+1 < src.size) (h1:saw src (k+1) 110=false) (h2:saw src (k+1) 116=false)
  {v:Int} (hix:Lib.indexByte behind.data.toList src[k+1]=v) (hv:0≤v):ByteOk b src barred behind k (k+1+1) g (src[k+1]).toNat:=by
 intro w hr
 go_enter Tryz.func280,Tryz.ntmps280
 go_wp2_with fail
 refine (take_yes 92 hr h92).mono ?_
 rintro e w1 ⟨rfl,r1,k1⟩
 go_wp2_with fail
 refine (escape_c behind r1 hk h1 h2 hix hv).mono ?_
 rintro e w2 ⟨rfl,r2,k2⟩
 go_wp2_with fail
 go_ret
 exact ⟨rfl,r2,k1.trans k2⟩
def special:ByteArray:=⟨#[92,124,42,43,63,123,125,40,41,46,94,36,91,93]⟩
def escaped:ByteArray:=⟨#[92,124,42,43,63,123,125,40,41,46,94,36,91,93,47]⟩
abbrev edgeV (k:Int):Value:=.iface 335 (.agg #[.int .i64 k])
theorem atom_byte {b:Nat} {src:ByteArray} {k l g x:Nat} {w:World} (hr:Rd w b src k g) (hx:x < 256) (h40:saw src k 40=false) (h46:saw src k 46=false) (h91:saw src k 91=false) (hb:ByteOk b src special escaped k l g x) :
  Calls Tryz.prog 265 #[.pointer (some ⟨b,0,none⟩)] w fun e w'=>e=.returned (oneV (span noBytes x (x+1)))∧Rd w' b src l g∧Kp [b] w w':=by
 go_enter Tryz.func265,Tryz.ntmps265
 go_wp2_with fail
 refine (sees_any 40 hr).mono ?_
 rw [h40]
 rintro e w1 ⟨rfl,n,rfl⟩
 go_wp2_with fail
 refine (take_no 46 (hr.drewN n) h46).mono ?_
 rintro e w2 ⟨rfl,r2,k2⟩
 go_wp2_with fail
 refine (take_no 91 r2 h91).mono ?_
 rintro e w3 ⟨rfl,r3,k3⟩
 go_wp2_with fail
 refine (hb _ r3).mono ?_
 rintro e w4 ⟨rfl,r4,k4⟩
 have q4:=Kp.alloc [b] w4 zero4
 have r5:=r4.keep (Kp.alloc [] w4 zero4) (by simp)
 have s5:=St_new w4
 have hz5:(w4.alloc zero4).heap.size=w4.heap.size+1:=by simp
 have hbl:=r4.lt
 go_wp2_with fail
 refine (add_any w4.heap.size noBytes x x hx hx (Nat.le_refl _) _ s5).mono ?_
 rintro e w6 ⟨rfl,s6,k6⟩
 have a0:=s6.cell 0 (by omega)
 have a1:=s6.cell 1 (by omega)
 have a2:=s6.cell 2 (by omega)
 have a3:=s6.cell 3 (by omega)
 have r6:=r5.keep k6 (by simp;omega)
 have k6':Kp [b] w4 w6:=by
  have:=Kp.own (x:=w4.heap.size) (S:=[b]) ((q4.mono (by simp)).trans (k6.mono (T:=[w4.heap.size,b]) (by simp))) (Nat.le_refl _)
  exact this
 clear s5 s6 r5
 go_wp2_with fail
 go_ret
 exact ⟨rfl,r6,(Kp.drewN _ _ n).trans (k2.trans (k3.trans (k4.trans k6')))⟩
theorem piece_begin {b:Nat} {src:ByteArray} {k g:Nat} (h94:saw src k 94=true):PieceOk b src k (k+1) g (edgeV 1):=by
 intro w hr _
 go_enter Tryz.func242,Tryz.ntmps242
 go_wp2_with fail
 refine (take_yes 94 hr h94).mono ?_
 rintro e w1 ⟨rfl,r1,k1⟩
 go_wp2_with fail
 go_ret
 exact ⟨rfl,r1,k1⟩
theorem piece_end {b:Nat} {src:ByteArray} {k g:Nat} (h94:saw src k 94=false) (h36:saw src k 36=true):PieceOk b src k (k+1) g (edgeV 2):=by
 intro w hr _
 go_enter Tryz.func242,Tryz.ntmps242
 go_wp2_with fail
 refine (take_no 94 hr h94).mono ?_
 rintro e w1 ⟨rfl,r1,k1⟩
 go_wp2_with fail
 refine (take_yes 36 r1 h36).mono ?_
 rintro e w2 ⟨rfl,r2,k2⟩
 go_wp2_with fail
 go_ret
 exact ⟨rfl,r2,k1.trans k2⟩
theorem size_of_edge (v : Value) (w : World) : (method 477 335 v "ribbon/pattern.size").run Tryz.prog w = .ok (312, v) w := by kernel_rfl
theorem emit_of_edge (v : Value) (w : World) : (method 477 335 v "ribbon/pattern.emit").run Tryz.prog w = .ok (311, v) w := by kernel_rfl
theorem edge_size (k:Int) (w:World):Calls Tryz.prog 312 #[.agg #[.int .i64 k]] w fun e w'=>e=.returned (.int .i64 1)∧Kp [] w w':=by
 go_enter Tryz.func312,Tryz.ntmps312
 go_wp2
 go_ret
 exact ⟨rfl,Kp.alloc _ _ _⟩
theorem toList_loop (s:ByteArray):∀ (n i:Nat) (r:List UInt8),s.size - i=n→ByteArray.toList.loop s i r=r.reverse++s.data.toList.drop i
 | 0,i,r,h=>by
  rw [ByteArray.toList.loop,if_neg (by omega),List.drop_eq_nil_of_le (by show s.size≤i;omega),List.append_nil]
 | n+1,i,r,h=>by
  have hi:i < s.size:=by omega
  rw [ByteArray.toList.loop,if_pos hi,toList_loop s n (i+1) _ (by omega)]
  have e:s.data.toList.drop i=s.get! i::s.data.toList.drop (i+1):=by
   have hi':i < s.data.toList.length:=hi
   rw [List.drop_eq_getElem_cons hi']
   congr 1
   show s.data[i]=s.data[i]!
   exact (getElem!_pos s.data i hi).symm
  rw [e];simp
theorem toList_data (s:ByteArray):s.toList=s.data.toList:=by
 show ByteArray.toList.loop s 0 []=_
 rw [toList_loop s s.size 0 [] rfl];rfl
theorem size_of_repeat (v : Value) (w : World) : (method 477 348 v "ribbon/pattern.size").run Tryz.prog w = .ok (314, v) w := by kernel_rfl
theorem emit_of_repeat (v : Value) (w : World) : (method 477 348 v "ribbon/pattern.emit").run Tryz.prog w = .ok (313, v) w := by kernel_rfl
def SafeT (L T:Nat) (w:World):Prop:=T < w.heap.size∧T≠L∧∀ v,w.cell? ⟨L,0,none⟩=some v→v.ownBlock≠some T
def Spares (L:Nat) (w w':World):Prop:=∀ T,SafeT L T w→SafeT L T w'∧w'.heap[T]? = w.heap[T]?
theorem Spares.trans {L:Nat} {a b c:World} (h:Spares L a b) (k:Spares L b c):Spares L a c:=fun T s=>by
 obtain ⟨h1,h2⟩:=h T s
 obtain ⟨k1,k2⟩:=k T h1
 exact ⟨k1,k2.trans h2⟩
theorem Spares.keep {L:Nat} {w w':World} (hl:L < w.heap.size) (k:Kp [] w w'):Spares L w w':=fun T s=>by
 refine ⟨⟨Nat.lt_of_lt_of_le s.1 k.size,s.2.1,fun v hv=>s.2.2 v ?_⟩,k.block T s.1 (by simp)⟩
 rw [←hv];exact (k.cell (p:=⟨L,0,none⟩) hl (by simp)).symm
theorem Spares.set {L i:Nat} {w:World} (hi:i≠0) (u:Value):Spares L w (w.setCell ⟨L,i,none⟩ u):=fun T s=>by
 refine ⟨⟨by simpa [World.setCell] using s.1,s.2.1,fun v hv=>s.2.2 v ?_⟩,Below.heap_setCell _ _ _ _ s.2.1⟩
 rwa [cell_other _ (fun e=>by injection e with _ e2 _;exact hi e2)] at hv
theorem Spares.cell {L T i:Nat} {w w':World} {v:Value} (h:Spares L w w') (s:SafeT L T w) (hv:w.cell? ⟨T,i,none⟩=some v):w'.cell? ⟨T,i,none⟩=some v:=
 (World.cell?_of_block (w:=w) (h T s).2).trans hv
theorem spares_add {L n' g c:Nat} {v:Value} {w W w':World} (hv:w.cell? ⟨L,0,none⟩=some v) (kW:Kp [] w W) (hg:W.grownBy w' v.ownBlock) (hor:v.ownBlock=some g∨W.heap.size≤g) (hc:w'.cell? ⟨L,0,none⟩=some v) :
  Spares L w (w'.setCell ⟨L,0,none⟩ (.slice (some ⟨g,0,none⟩) n' c)):=fun T s=>by
 have hne:=s.2.2 v hv
 have hTW:T < W.heap.size:=Nat.lt_of_lt_of_le s.1 kW.size
 have hz:w'.heap.size≤(w'.setCell ⟨L,0,none⟩ (.slice (some ⟨g,0,none⟩) n' c)).heap.size:=by simp [World.setCell]
 refine ⟨⟨Nat.lt_of_lt_of_le hTW (Nat.le_trans hg.size hz),s.2.1,fun u hu=>?_⟩,?_⟩
 ·rw [cell_same _ hc] at hu
  have e:=(Option.some.inj hu).symm
  subst e
  intro q
  have e:g=T:=by simpa [Value.ownBlock] using q
  rcases hor with r | r
  ·exact hne (e ▸ r)
  ·omega
 ·exact (Below.heap_setCell _ _ _ _ s.2.1).trans ((hg.block T hTW (fun e=>hne e.symm)).trans (kW.block T s.1 (by simp)))
theorem Ls.depth {w:World} {L n:Nat} {xs:List Value} {d dp:Nat} (h:Ls w L n xs d dp) (q:Nat):Ls (w.setCell ⟨L,1,none⟩ (.int .i64 (q:Int))) L n xs q dp:=by
 obtain ⟨v,h1,h2,h3⟩:=h.code
 have cf:∀ i,i≠1→(w.setCell ⟨L,1,none⟩ (.int .i64 (q:Int))).cell? ⟨L,i,none⟩=w.cell? ⟨L,i,none⟩:=fun i hi=>cell_other _ (fun e=>by injection e with _ e2 _;exact hi e2.symm)
 exact ⟨by simpa [World.setCell] using h.lt,⟨v,(cf 0 (by omega)).trans h1,owns_of_block h2 (fun k hk _=>Below.heap_setCell _ _ _ _ (by have:=(h2.lt k hk).1;show k≠L;omega)),h3⟩,cell_same _ h.c1,(cf 2 (by omega)).trans h.c2,fun i=>by simpa using h.free i⟩
theorem Ls.deep {w:World} {L n:Nat} {xs:List Value} {d dp:Nat} (h:Ls w L n xs d dp) (q:Nat):Ls (w.setCell ⟨L,2,none⟩ (.int .i64 (q:Int))) L n xs d q:=by
 obtain ⟨v,h1,h2,h3⟩:=h.code
 have cf:∀ i,i≠2→(w.setCell ⟨L,2,none⟩ (.int .i64 (q:Int))).cell? ⟨L,i,none⟩=w.cell? ⟨L,i,none⟩:=fun i hi=>cell_other _ (fun e=>by injection e with _ e2 _;exact hi e2.symm)
 exact ⟨by simpa [World.setCell] using h.lt,⟨v,(cf 0 (by omega)).trans h1,owns_of_block h2 (fun k hk _=>Below.heap_setCell _ _ _ _ (by have:=(h2.lt k hk).1;show k≠L;omega)),h3⟩,(cf 1 (by omega)).trans h.c1,cell_same _ h.c2,fun i=>by simpa using h.free i⟩
theorem below_set {w:World} {L i:Nat} (v:Value) {b:Nat} (hb:L≤b):Below L w (w.setCell ⟨b,i,none⟩ v):=
 ⟨rfl,rfl,rfl,by simp [World.setCell],fun k hk=>Below.heap_setCell _ _ _ _ (by show k≠b;omega)⟩
theorem add_leaves' {L n:Nat} {xs:List Value} {v:Value} {w:World} (hv:w.cell? ⟨L,0,none⟩=some v) (hown:w.ownsRow (L+1) 232 9 v n xs) (hn:n≤100000) (hl:L < w.heap.size) (hf:w.frozen? ⟨L,0,none⟩=false) (kind next other slot depth:Int) (m:Nat→Bool) :
  Calls Tryz.prog 112 #[.pointer (some ⟨L,0,none⟩),.agg (ins kind next other slot depth m).toArray] w fun e w'=>e=.returned (.int .i64 n) ∧
   AddedP L (n+1) (xs++ins kind next other slot depth m) w w'∧Spares L w w':=by
 obtain ⟨i0,hi,hz0,hz1,hz2⟩:=info_parts Tryz.infoIns
 have HO:=hid hown
 have HV:=hid hv
 have HF:=hid hf
 have HL:=hid hl
 clear hown
 have hins:=ins_one kind next other slot depth m
 have HI:=hid hins
 clear hins
 unfold ins at *
 go_enter Tryz.func112,Tryz.ntmps112
 go_wp2
 go_region_law (refine step_append2 rfl (.tmp 9) (.tmp 11) 169 rfl (L+1) 232 i0 _ 9 72 Tryz.underlying169 hi hz0 hz1 hz2 rfl (by decide) v n xs (by simp [Act.eval]) (((HO.out.alloc _).alloc _).drew) ⟨w.heap.size+1,0,none⟩ 1 1 _ (by simp [Act.eval]) rfl (by exact news_cells (w.alloc _) _ _ _ (by simp)) HI.out (by unfold maxLen;omega) (by omega) (by simp;omega) (by decide) ?_;intro g c w' hown' hgrow hor;have c0':=((grown_cell ((HO.out.alloc _).alloc _).drew hgrow (p:=⟨L,0,none⟩) (Nat.lt_succ_self _) (by simp;omega)).trans (((Kp.alloc [] _ _).trans ((Kp.alloc _ _ _).trans (Kp.drew _ _))).cell HL.out (by simp))).trans HV.out;have f0':=((grown_free ((HO.out.alloc _).alloc _).drew hgrow (p:=⟨L,0,none⟩) (Nat.lt_succ_self _) (by simp;omega)).trans (((Kp.alloc [] _ _).trans ((Kp.alloc _ _ _).trans (Kp.drew _ _))).frozen HL.out (by simp))).trans HF.out;have HO':=hid hown';have HG:=hid hgrow;have HR:=hid hor;clear hown' hgrow hor)
 all_goals go_wp2
 all_goals go_ret
 all_goals exact ⟨rfl,added_of HL.out HV.out ((Kp.alloc _ _ _).trans ((Kp.alloc _ _ _).trans (Kp.drew _ _))) ((HO.out.alloc _).alloc _).drew HG.out HO'.out,spares_add HV.out ((Kp.alloc _ _ _).trans ((Kp.alloc _ _ _).trans (Kp.drew _ _))) HG.out HR.out c0'⟩
theorem listAddS {L n:Nat} {xs:List Value} {d dp:Nat} {w:World} (h:Ls w L n xs d dp) (hn:n≤100000) (kind next other slot depth:Int) (m:Nat→Bool) :
  Calls Tryz.prog 112 #[.pointer (some ⟨L,0,none⟩),.agg (ins kind next other slot depth m).toArray] w fun e w'=>e=.returned (.int .i64 n)∧Ls w' L (n+1) (xs++ins kind next other slot depth m) d dp∧Below L w w'∧Spares L w w':=by
 obtain ⟨v,h1,h2,_⟩:=h.code
 exact (add_leaves' h1 h2 hn h.lt (h.free 0) kind next other slot depth m).mono fun e w' ⟨he,ha,hs⟩=>⟨he,h.added ha,ha.below,hs⟩
theorem listAddS0 {L n:Nat} {xs:List Value} {d dp:Nat} {w:World} (h:Ls w L n xs d dp) (hn:n≤100000) (kind next other slot depth:Int) :
  Calls Tryz.prog 112 #[.pointer (some ⟨L,0,none⟩),.agg (ins0 kind next other slot depth).toArray] w fun e w'=>e=.returned (.int .i64 n)∧Ls w' L (n+1) (xs++ins0 kind next other slot depth) d dp∧Below L w w'∧Spares L w w':=by
 have:=listAddS h hn kind next other slot depth noBytes
 rw [ins0_eq] at this
 exact this
theorem one_emitS {L n:Nat} {xs:List Value} {d dp:Nat} {w:World} (h:Ls w L n xs d dp) (hn:n≤100000) (next:Int) (m:Nat→Bool) :
  Calls Tryz.prog 317 #[setV m,.pointer (some ⟨L,0,none⟩),.int .i64 next] w fun e w'=>e=.returned (.int .i64 n)∧Ls w' L (n+1) (xs++ins 0 next 0 0 d m) d dp∧Below L w w'∧Spares L w w':=by
 have c1:=h.c1
 have hl:=h.lt
 go_enter Tryz.func317,Tryz.ntmps317
 go_wp2
 go_region_with (go_at_call 112;refine (listAddS (h.keep (by exact (Kp.alloc _ _ _).trans (Kp.drew _ _))) hn 0 next 0 0 d m).mono ?_;rintro e w1 ⟨rfl,h1,b1,s1⟩)
 all_goals go_wp2
 all_goals go_ret
 all_goals exact ⟨rfl,h1,(((Below.refl L w).alloc (by omega) _).drew).trans b1,(Spares.keep hl ((Kp.alloc _ _ _).trans (Kp.drew _ _))).trans s1⟩
theorem Ls.stored {w:World} {L n g c:Nat} {xs:List Value} {d dp:Nat} (h:Ls w L n xs d dp) (hv:w.cell? ⟨L,0,none⟩=some (.slice (some ⟨g,0,none⟩) n c)) (j:Nat) (u:Value) :
  Ls (w.setCell ⟨g,j,none⟩ u) L n (xs.set j u) d dp∧Below L w (w.setCell ⟨g,j,none⟩ u)∧Spares L w (w.setCell ⟨g,j,none⟩ u):=by
 obtain ⟨v,h1,h2,h3⟩:=h.code
 have e:v=.slice (some ⟨g,0,none⟩) n c:=Option.some.inj (h1.symm.trans hv)
 subst e
 have hg:=(h2.lt g (by simp [Value.ownBlock])).1
 have cf:∀ i,(w.setCell ⟨g,j,none⟩ u).cell? ⟨L,i,none⟩=w.cell? ⟨L,i,none⟩:=fun i=>cell_other _ (fun e=>by injection e with e1 _ _;omega)
 refine ⟨⟨by simpa [World.setCell] using h.lt,⟨_,(cf 0).trans h1,(h2.stored j u).1,h3⟩,(cf 1).trans h.c1,(cf 2).trans h.c2,fun i=>by simpa using h.free i⟩,below_set _ (by omega),fun T s=>?_⟩
 have hne:T≠g:=fun e=>s.2.2 _ h1 (by simp [Value.ownBlock,e])
 refine ⟨⟨by simpa [World.setCell] using s.1,s.2.1,fun v' hv'=>s.2.2 v' ?_⟩,Below.heap_setCell _ _ _ _ hne⟩
 rwa [cf 0] at hv'
