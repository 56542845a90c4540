import Derived.Test.YtiahkfoojjpaaaaGreatDoorU15
import Derived.Test.YtiahkfoojjpaaaaGreatDoorU16
import Derived.Test.YtiahkfoojjpaaaaGreatDoorU14
import Derived.Shelf.Strings.Builder1
set_option maxRecDepth 100000
set_option maxHeartbeats 16000000
set_option linter.all false
namespace Go.Proofs.YtiahkfoojjpaaaaGreatDoor
open Go.RowKit Go.Shelf
def Tryz.ox:Go.Shelf.Ren:=⟨fun | 169=>38 | n=>n,fun | 70=>73 | 9=>9 | 0=>0 | 72=>75 | 37=>49 | 127=>133 | 3=>3 | 5=>5 | n=>n,fun | n=>n⟩
theorem Tryz.lays169:Go.Proofs.Lays.n169 Tryz.prog Tryz.ox:={
 mixed:=by kernel_rfl
 f169:=(Tryz.func38).trans (congrArg some (by kernel_rfl))
 t0:=Tryz.underlying0
 a0:=Tryz.isAgg0
 z0:=Tryz.sizeOf0
 v0:=Tryz.zeroValue0
 t3:=Tryz.underlying3
 a3:=Tryz.isAgg3
 z3:=Tryz.sizeOf3
 v3:=Tryz.zeroValue3
 t9:=Tryz.underlying9
 a9:=Tryz.isAgg9
 z9:=Tryz.sizeOf9
 v9:=Tryz.zeroValue9
 t37:=Tryz.underlying49
 a37:=Tryz.isAgg49
 z37:=Tryz.sizeOf49
 v37:=Tryz.zeroValue49
 t70:=Tryz.underlying73
 a70:=Tryz.isAgg73
 z70:=Tryz.sizeOf73
 v70:=Tryz.zeroValue73
 t72:=Tryz.underlying75
 a72:=Tryz.isAgg75
 z72:=Tryz.sizeOf75
 v72:=Tryz.zeroValue75
 t127:=Tryz.underlying133
 a127:=Tryz.isAgg133
 z127:=Tryz.sizeOf133
 v127:=Tryz.zeroValue133 }
theorem Tryz.lC:Builder.Extra Tryz.prog Tryz.ox:={
 sizeBuilder:=by kernel_rfl
 liesBuilder:=by kernel_rfl
 t5:=Tryz.underlying5
 a5:=Tryz.isAgg5
 z5:=Tryz.sizeOf5
 v5:=Tryz.zeroValue5
 infoByte:=by kernel_rfl
 cellsByte:=by kernel_rfl
 sizeByte:=by kernel_rfl
 neB5:=by decide }
abbrev Bdr (B b:Nat) (l:List UInt8) (w:World):Prop:=Lib.IsBuilder 75 5 B b (Lib.byteCells l) w
theorem Cj {B b:Nat} {l:List UInt8} {w w':World} {p:Value} (k:Kp [] w w') (h:Lib.BuilderAt 75 5 B b p (Lib.byteCells l) w):Lib.BuilderAt 75 5 B b p (Lib.byteCells l) w':=by
 have hlt:=h.lt;obtain ⟨hB,v,hb,ho,hn⟩:=h;exact ⟨hB,v,(k.block b hlt (by simp)).trans hb,ag ho (fun q hq=>k.block q (az ho hq).2 (by simp)),hn⟩
theorem Bdr.aj {B b:Nat} {l:List UInt8} {w w':World} (h:Bdr B b l w) (k:Kp [] w w'):Bdr B b l w':=by
 rcases h with h | h
 .exact .inl (Cj k h)
 .exact .inr (Cj k h)
theorem bdr_new (w:World):Bdr w.heap.size w.heap.size [] (w.alloc (.cells #[.pointer none,.slice none 0 0] 75)):=Lib.fresh_isBuilder _ _ w
theorem tp {w0 w w':World} (k:Kp [] w0 w) (b:Below w0.heap.size w w'):Kp [] w0 w':=
 ⟨b.os.trans k.os,b.tape.trans k.tape,b.output.trans k.output,Nx k.size b.size,fun q hq _=>(b.block q hq).trans (k.block q hq (by simp))⟩
theorem sizeBdr:(Tryz.prog.info? 75).map (·.size)=some 2:=by kernel_rfl
theorem liesBdr:liesAt Tryz.prog Tryz.prog.depth 75 (2 / Tryz.prog.cellsOf 75) 0 75 1=true:=by kernel_rfl
section
variable {w:World} {B b:Nat} {l:List UInt8}
theorem oM (h:Bdr B b l w):Calls Tryz.prog 53 #[.pointer (some ⟨b,0,none⟩)] w fun e w'=>e=.returned (.tuple #[])/\Lib.BuilderAt 75 5 B b (.pointer (some ⟨b,0,none⟩)) (Lib.byteCells l) w'/\Below B w w':=by
 obtain ⟨j,hj,hjs⟩:=Option.map_eq_some_iff.1 sizeBdr;rcases h with h | h
 .have h0:=h.cell0;have hsh:=h.shape;have hfz:=h.frozen0;have H:=hid h;clear h;go_enter Tryz.func53,Tryz.ntmps53
  go_wp2;rw [Lib.run_to_unsafe w ⟨b,0,none⟩ Tryz.underlying73 Tryz.underlying166 hj (by rw [hjs];decide) hsh (Nat.zero_lt_succ 1)];simp only [Result.andThen];rw [Oper.upon_value];go_wp2;rw [run_callFunc_extern Tryz.func107 (by kernel_rfl) (by kernel_rfl) (by kernel_rfl) (e:=Extern.AbiNoEscape.same) (by kernel_rfl),Lib.run_noEscape];simp only [Result.andThen];rw [Oper.upon_value];go_wp2;rw [Lib.run_from_unsafe w ⟨b,0,none⟩ Tryz.underlying166 Tryz.underlying73 hj hsh liesBdr];simp only [Result.andThen];rw [Oper.upon_value];go_wp2;go_end0;exact ⟨rfl,H.out.used _,(Below.refl B w).setCell (p:=⟨b,0,none⟩) H.out.1 _⟩
 .have h0:=h.cell0;have H:=hid h;clear h;go_enter Tryz.func53,Tryz.ntmps53
  go_wp2;rw [Lib.run_neq_ptr_same w _ Tryz.underlying73 hj];go_wp2;go_end0;exact ⟨rfl,H.out,Below.refl B _⟩
theorem rf (s:ByteArray) (h:Bdr B b l w) (hlen:l.length+s.size<=100000000000) (hBw:B<=w.heap.size) :
  Calls Tryz.prog 36 #[.pointer (some ⟨b,0,none⟩),.string s] w fun e w'=>e=.returned (.tuple #[.int .i64 s.size,.nilIface])/\Bdr B b (l++s.data.toList) w'/\Below B w w':=by
 obtain ⟨i0,hi,hz0,hz1,hz2⟩:=info_parts Tryz.infoByte;have HI:=hid (And.intro hi (And.intro hz0 (And.intro hz1 hz2)));have HC:=hid (oM h);clear hi hz0 hz1 hz2 h;go_enter Tryz.func36,Tryz.ntmps36
 go_wp2_with fail;refine HC.out.mono ?_;rintro e w1 ⟨rfl,h1,hb1⟩;have hlt:=h1.lt;obtain ⟨hB,v,hbk,hown,hne⟩:=h1;have c0:w1.cell? ⟨b,0,none⟩=some (.pointer (some ⟨b,0,none⟩)):=by rw [Lib.cell_of_heap hbk];rfl
 have c1:w1.cell? ⟨b,1,none⟩=some v:=by rw [Lib.cell_of_heap hbk];rfl
 have hsz:=hb1.size;have HL:(Lib.byteCells l).length=l.length:=by simp [Lib.byteCells]
 rw [HL] at hown;go_wp2_with (at_builtin;refine Lib.wpList_append_own_string _ rfl _ _ 49 9 rfl B 5 i0 Tryz.underlying49 Tryz.underlying9 HI.out.1 HI.out.2.1 HI.out.2.2.1 HI.out.2.2.2 _ _ _ rfl hown s rfl ?c3 ?c4 ?c5 ?_)
 case c3=>unfold maxLen;omega
 case c4=>omega
 case c5=>omega
 intro v' w2 hown' hgrow _;have hb2:w2.heap[b]? = some (.cells #[.pointer (some ⟨b,0,none⟩),v] 75 (0,0)):=by
  rw [hgrow.block b hlt (fun e=>hne e.symm)];exact hbk
 have d0:w2.cell? ⟨b,0,none⟩=some (.pointer (some ⟨b,0,none⟩)):=by rw [Lib.cell_of_heap hb2];rfl
 have d1:w2.cell? ⟨b,1,none⟩=some v:=by rw [Lib.cell_of_heap hb2];rfl
 have f1:w2.frozen? ⟨b,1,none⟩=false:=Lib.frozen_of_heap hb2 1;obtain ⟨ao,n',cap,rfl⟩:∃ ao n' cap,v'=.slice ao n' cap:=by
  rcases hown'.2 with ⟨hv,_⟩ | ⟨g,cap,cur,hv,_⟩
  .exact ⟨_,_,_,hv⟩
  .exact ⟨_,_,_,hv⟩
 go_wp2;go_ret2
 refine ⟨rfl,.inr ?_,?_⟩
 .exact Lib.BuilderAt.put hB hb2 (by simpa [Lib.strCells,Lib.byteCells] using hown') (by decide)
 .exact (hb1.grown hgrow (by omega) (fun k hk=>(hown.lt k hk).1)).setCell (p:=⟨b,1,none⟩) hB _
theorem yo (c:UInt8) (h:Bdr B b l w) (hlen:l.length<=100000000000) (hBw:B<=w.heap.size) :
  Calls Tryz.prog 54 #[.pointer (some ⟨b,0,none⟩),.int .u8 (c.toNat:Int)] w fun e w'=>e=.returned .nilIface/\Bdr B b (l++[c]) w'/\Below B w w':=by
 obtain ⟨i0,hi,hz0,hz1,hz2⟩:=info_parts Tryz.infoByte;have HI:=hid (And.intro hi (And.intro hz0 (And.intro hz1 hz2)));have HC:=hid (oM h);clear hi hz0 hz1 hz2 h;go_enter Tryz.func54,Tryz.ntmps54
 go_wp2_with fail;refine HC.out.mono ?_;rintro e w1 ⟨rfl,h1,hb1⟩;have hlt:=h1.lt;obtain ⟨hB,v,hbk,hown,hne⟩:=h1;have c0:w1.cell? ⟨b,0,none⟩=some (.pointer (some ⟨b,0,none⟩)):=by rw [Lib.cell_of_heap hbk];rfl
 have c1:w1.cell? ⟨b,1,none⟩=some v:=by rw [Lib.cell_of_heap hbk];rfl
 have hsz:=hb1.size;have HL:(Lib.byteCells l).length=l.length:=by simp [Lib.byteCells]
 rw [HL] at hown;go_wp2_with (at_builtin;refine wpList_append_own _ rfl _ _ 49 rfl B 5 i0 (.int .u8 0) 1 1 Tryz.underlying49 HI.out.1 HI.out.2.1 HI.out.2.2.1 HI.out.2.2.2 rfl (by decide) _ _ _ rfl (hown.alloc _) ⟨w1.heap.size,0,none⟩ 1 1 [.int .u8 (c.toNat:Int)] rfl rfl ?c1 ?c2 ?c3 ?c4 ?c5 ?_)
 case c1=>
  intro j u hj
  match j,hj with
  | 0,hj=>simp at hj;subst hj;simp [Addr.add]
 case c2=>intro u hu;simp at hu;subst hu;rfl
 case c3=>unfold maxLen;omega
 case c4=>omega
 case c5=>simp;omega
 intro v' w2 hown' hgrow _;have hb2:w2.heap[b]? = some (.cells #[.pointer (some ⟨b,0,none⟩),v] 75 (0,0)):=by
  rw [hgrow.block b (by simp;omega) (fun e=>hne e.symm),Lib.alloc_old w1 _ b hlt];exact hbk
 have d0:w2.cell? ⟨b,0,none⟩=some (.pointer (some ⟨b,0,none⟩)):=by rw [Lib.cell_of_heap hb2];rfl
 have d1:w2.cell? ⟨b,1,none⟩=some v:=by rw [Lib.cell_of_heap hb2];rfl
 have f1:w2.frozen? ⟨b,1,none⟩=false:=Lib.frozen_of_heap hb2 1;obtain ⟨g,cap,rfl⟩:∃ g cap,v'=.slice (some ⟨g,0,none⟩) (l.length+1) cap:=by
  rcases hown'.2 with ⟨_,h0⟩ | ⟨g,cap,cur,hv,_⟩
  .omega
  .exact ⟨g,cap,hv⟩
 go_wp2;go_ret;refine ⟨rfl,.inr ?_,?_⟩
 .exact Lib.BuilderAt.put hB hb2 (by simpa [Lib.byteCells] using hown') (by decide)
 .exact ((hb1.alloc (by omega) _).grown hgrow (by simp;omega) (fun k hk=>(hown.lt k hk).1)).setCell (p:=⟨b,1,none⟩) hB _
theorem IY (h:Bdr B b l w) (hBw:B<=w.heap.size):Calls Tryz.prog 38 #[.pointer (some ⟨b,0,none⟩)] w fun e w'=>e=.returned (.string (ba l))/\Below B w w':=
 Any.Builder_String_any Tryz.lays169 Tryz.lC B b l w h hBw
end
end Go.Proofs.YtiahkfoojjpaaaaGreatDoor
namespace Go.Proofs.YtiahkfoojjpaaaaGreatDoor
open Go.RowKit
section
variable {w0 w w' w2:World} {mb sb db lo hi:Nat} {s s':Mst} {σ:Sst}
abbrev lU:List Value:=[.string ⟨#[]⟩,.bool false,.int .i64 0,.int .i64 0]
theorem ik (o:List UInt8) (ov:Bool) (er st:Nat):∀ u∈fI o ov er st,u.oneCell'=true:=fun u hu=>by
 simp only [fI,Oh,OV,or_false] at hu;rcases hu with h | h | h | h <;> subst h <;> rfl
theorem de.stored {p:Pst} {x:Nat} {vs:List Value} (hx:x=w.heap.size) (h:Mac w0 w mb sb db s) (g:de w0 mb sb db (w.alloc (.cells lU.toArray 31)) s w' p) (hl:vs.length=4) :
  de w0 mb sb db w s (w'.setCells x 0 vs) p/\Bl (w'.setCells x 0 vs) x vs:=by
 obtain ⟨s1,e1,m1,g1⟩:=g;have ka:=Kp.alloc [] w (.cells lU.toArray 31);have far:=(h.dP (Nw w.heap.size)).2;have B0:=Bl.alloc w lU 31;have B1:=g1.bl B0 far;rw [<-hx] at B1 B0 far;have kx:Kp [x] w' (w'.setCells x 0 vs):=dI (by simp) _ _ _;have fx:∀ i,maB mb db s1.r i≠some x:=fun i e=>by
  rcases g1.from_ i x e with ⟨j,hj⟩ | q
  .exact far j hj
  .have:=B0.lt;omega
 have gw:Gr mb db w s.r w' s1.r:=(Gr.df ka (fun _ e=>by cases e)).trans g1;refine ⟨⟨s1,e1,m1.other kx (fun y hy=>?_),⟨Nx gw.size kx.size,gw.from_,fun p hp hn=>(kx.block p (Ns hp gw.size) (fun e=>?_)).trans (gw.same p hp hn)⟩⟩,B1.put (by simpa using hl)⟩
 .simp at hy;rw [hy];exact ⟨by rw [hx];exact h.r.kp.size,fx⟩
 .simp at e;rw [e,hx] at hp;omega
theorem Hu {eb:Nat} (h:w.cell? ⟨eb,0,none⟩=some (.pointer (some ⟨mb,0,none⟩))) :
  Calls Tryz.prog 26 #[.pointer (some ⟨eb,0,none⟩)] w fun r w'=>r=.returned (.bool false)/\w'=w:=by
 go_enter Tryz.func26,Tryz.ntmps26
 go_wp2_with fail;go_ret;exact ⟨rfl,rfl⟩
theorem Bl.rK {x:Nat} (hx:x=w.heap.size) (h:Mac w0 w mb sb db s) (g:Gr mb db (w.alloc (.cells lU.toArray 31)) s.r w' s'.r):w'.there x 0 4:=by
 have B2:=g.bl (Bl.alloc w lU 31) (h.dP (Nw _)).2;subst hx;intro j hj;rw [NJ];have:j < lU.length:=hj;rw [B2.at_ j _ (Nv this)];exact ⟨rfl,B2.free j⟩
theorem efeed_v {data:ByteArray} {eb:Nat} {o:List UInt8} {ov:Bool} {er st:Nat} {p':Pst} (h:Mac w0 w mb sb db s) (he:w.cell? ⟨eb,0,none⟩=some (.pointer (some ⟨mb,0,none⟩)))
  (hf:∀ wx,Mac w0 wx mb sb db s->Calls Tryz.prog 27 #[.pointer (some ⟨mb,0,none⟩),.string data] wx fun r w'=>r=.returned (.agg (fI o ov er st).toArray)/\de w0 mb sb db wx s w' p') :
  Calls Tryz.prog 13 #[.pointer (some ⟨eb,0,none⟩),.string data] w fun r w'=>r=.returned (.agg (fI o ov er st).toArray)/\de w0 mb sb db w s w' p':=by
 have ka:=Kp.alloc [] w (.cells lU.toArray 31);have m1:=h.aj ka;have HF:=hid (hf _ m1);have he1:(w.alloc (.cells lU.toArray 31)).cell? ⟨eb,0,none⟩=some (.pointer (some ⟨mb,0,none⟩)):=(ka.cell (p:=⟨eb,0,none⟩) (World.block_lt_of_cell? _ _ he) (by simp)).trans he;have HID:=hid (Hu he1);clear hf;go_enter Tryz.func13,Tryz.ntmps13
 go_wp2_with fail;refine HID.out.mono ?_;rintro r w1 ⟨rfl,rfl⟩;go_wp2_with fail;refine HF.out.mono ?_;rintro r w2 ⟨rfl,s2,e2,n2,g2⟩;have GG:=hid (de.stored (vs:=fI o ov er st) rfl h ⟨s2,e2,n2,g2⟩ rfl);have HTH:=hid (Bl.rK rfl h g2);clear HF HID;go_wp2_with (refine wpList_store_mid rfl 31 (.tmp 4) (.tmp 13) rfl w.heap.size 0 (fI o ov er st).toArray rfl rfl HTH.out Tryz.eJ (all_oneCell_toArray (ik _ _ _ _)) ?_)
 refine bodyPost_ret (eC (p:=4) (ty:=31) (by rw [Tryz.results13]) _ _ w.heap.size 0 rfl _ _ GG.out.2.range Tryz.underlying31 rfl (by rw [Tryz.eJ];rfl)) rfl ⟨rfl,GG.out.1⟩
theorem eend_v {eb:Nat} {o:List UInt8} {ov:Bool} {er st:Nat} {p':Pst} (h:Mac w0 w mb sb db s) (he:w.cell? ⟨eb,0,none⟩=some (.pointer (some ⟨mb,0,none⟩)))
  (hf:∀ wx,Mac w0 wx mb sb db s->Calls Tryz.prog 28 #[.pointer (some ⟨mb,0,none⟩)] wx fun r w'=>r=.returned (.agg (fI o ov er st).toArray)/\de w0 mb sb db wx s w' p') :
  Calls Tryz.prog 14 #[.pointer (some ⟨eb,0,none⟩)] w fun r w'=>r=.returned (.agg (fI o ov er st).toArray)/\de w0 mb sb db w s w' p':=by
 have ka:=Kp.alloc [] w (.cells lU.toArray 31);have m1:=h.aj ka;have HF:=hid (hf _ m1);have he1:(w.alloc (.cells lU.toArray 31)).cell? ⟨eb,0,none⟩=some (.pointer (some ⟨mb,0,none⟩)):=(ka.cell (p:=⟨eb,0,none⟩) (World.block_lt_of_cell? _ _ he) (by simp)).trans he;have HID:=hid (Hu he1);clear hf;go_enter Tryz.func14,Tryz.ntmps14
 go_wp2_with fail;refine HID.out.mono ?_;rintro r w1 ⟨rfl,rfl⟩;go_wp2_with fail;refine HF.out.mono ?_;rintro r w2 ⟨rfl,s2,e2,n2,g2⟩;have GG:=hid (de.stored (vs:=fI o ov er st) rfl h ⟨s2,e2,n2,g2⟩ rfl);have HTH:=hid (Bl.rK rfl h g2);clear HF HID;go_wp2_with (refine wpList_store_mid rfl 31 (.tmp 2) (.tmp 10) rfl w.heap.size 0 (fI o ov er st).toArray rfl rfl HTH.out Tryz.eJ (all_oneCell_toArray (ik _ _ _ _)) ?_)
 refine bodyPost_ret (eC (p:=2) (ty:=31) (by rw [Tryz.results14]) _ _ w.heap.size 0 rfl _ _ GG.out.2.range Tryz.underlying31 rfl (by rw [Tryz.eJ];rfl)) rfl ⟨rfl,GG.out.1⟩
end
section
variable {w0 w w':World} {mb sb db lo hi:Nat} {s s':Mst} {σ:Sst}
def wh (ls:List (List UInt8)):List UInt8:=ls.flatMap (fun l=>l++[10])
end
section
variable {w0 w w':World} {mb sb db lo hi:Nat} {s s':Mst} {σ:Sst}
def Pst.none (p:Pst):Bool:=p.ended && (p.left.toList == [])
theorem GZ {b:Bool} (h:Mac w0 w mb sb db s) (hb:s.p.none=b):Calls Tryz.prog 120 #[.pointer (some ⟨mb,2,none⟩)] w fun r w'=>r=.returned (.bool b)/\w'=w:=by
 have c2:=h.b.at_ 2 _ rfl;have c4:=h.b.at_ 4 _ rfl;have hb:(s.ended && (s.left.toList == []))=b:=hb;go_enter Tryz.func120,Tryz.ntmps120
 cases he:s.ended with
 | false=>
  rw [he] at c4 hb;subst hb;go_wp2_with fail;go_ret;exact ⟨rfl,rfl⟩
 | true=>
  rw [he] at c4 hb
  cases hq:(s.left.toList == []) with
  | false=>
   rw [hq] at hb;subst hb;go_wp2_with fail;go_ret;exact ⟨rfl,rfl⟩
  | true=>
   rw [hq] at hb;subst hb;go_wp2_with fail;go_ret;exact ⟨rfl,rfl⟩
theorem xW {t:ByteArray} (ht:t.size<=4000) (w:World):Calls Tryz.prog 115 #[.string t] w fun r w'=>r=.returned (.string t)/\w'=w:=by
 have hq:¬ 4000 < t.size:=by omega
 go_enter Tryz.func115,Tryz.ntmps115
 go_wp2_with fail;go_ret;exact ⟨rfl,rfl⟩
theorem lV {a b:List UInt8} (h:a.length+1+b.length<=4000) (w:World):Calls Tryz.prog 119 #[.string (ba a),.string (ba b)] w fun r w'=>r=.returned (.string (ba (a++10::b)))/\w'=w:=by
 obtain ⟨c,hc⟩:∃ c,c=a++[10]:=⟨_,rfl⟩;obtain ⟨d,hd⟩:∃ d,d=c++b:=⟨_,rfl⟩;have e1:ba a++⟨#[10]⟩=ba c:=by rw [hc];exact jC a [10]
 have e2:ba c++ba b=ba d:=by rw [hd];exact jC c b
 have ed:a++10::b=d:=by rw [hd,hc];simp
 have za:=ay a;have zb:=ay b;have zc:(ba c).size=a.length+1:=by rw [ay,hc,Nu];rfl
 have zd:(ba d).size=a.length+1+b.length:=by rw [ay,hd,hc,Nu,Nu];rfl
 have o1:¬ 9223372036854775807 < a.length+1:=by omega
 have o2:¬ 9223372036854775807 < a.length+1+b.length:=by omega
 rw [ed];have HB:=hid (fun w=>xW (t:=ba d) (by omega) w);clear hc hd ed;go_enter Tryz.func119,Tryz.ntmps119
 go_wp2_with fail;refine (HB.out _).mono ?_;rintro r w1 ⟨rfl,rfl⟩;go_wp2_with fail;go_ret;exact ⟨rfl,rfl⟩
def Pst.got (a b:List UInt8) (p:Pst):Pst:={ p with space:=ba (a++10::b) }
def Pst.holds (p:Pst):Pst:={ p with held:=p.space }
abbrev gmV:Value:=.func (.func 124) #[] #[]
def Pst.goto (k:Nat) (p:Pst):Pst:={ p with pc:=k }
theorem getBehind_v {cp:Value} {a b:List UInt8} (h:Mac w0 w mb sb db s) (ha:s.space=ba a) (hb:s.held=ba b) (hl:a.length+1+b.length<=4000) :
  Calls Tryz.prog 68 #[.pointer (some ⟨mb,0,none⟩),cp] w fun r w'=>r=.returned (.tuple #[])/\de w0 mb sb db w s w' (s.p.got a b):=by
 have c9:=h.b.at_ 9 _ rfl;have c10:=h.b.at_ 10 _ rfl;have f9:=h.b.free 9;rw [ha] at c9;rw [hb] at c10;have H:=hid (fun w=>lV hl w);have m1:=h.aj (Kp.drew [] w);have m2:=m1.set (s':={ s with space:=ba (a++10::b) }) 9 (.string (ba (a++10::b))) (by omega) rfl rfl;have gr:Gr mb db w s.r (w.drew.setCell ⟨mb,9,none⟩ (.string (ba (a++10::b)))) s.r:=(Gr.df (Kp.drew [] w) (fun _ e=>by cases e)).trans (Gr.set _ _ _ _);have G2:Hid (de w0 mb sb db w s (w.drew.setCell ⟨mb,9,none⟩ (.string (ba (a++10::b)))) (s.p.got a b)):=hid ⟨_,rfl,m2,gr⟩;clear m1 m2 gr;go_enter Tryz.func68,Tryz.ntmps68
 go_region_with (go_at_call 119;refine (H.out _).mono ?_;rintro r w1 ⟨rfl,rfl⟩)
 all_goals
  go_wp2_with fail;go_end0;exact ⟨rfl,G2.out⟩
theorem hold_v {cp:Value} (h:Mac w0 w mb sb db s) :
  Calls Tryz.prog 69 #[.pointer (some ⟨mb,0,none⟩),cp] w fun r w'=>r=.returned (.tuple #[])/\de w0 mb sb db w s w' s.p.holds:=by
 have c9:=h.b.at_ 9 _ rfl;have c10:=h.b.at_ 10 _ rfl;have f10:=h.b.free 10;have G:=hid (de.set (s':={ s with held:=s.space }) h 10 (.string s.space) (by omega) rfl rfl);go_enter Tryz.func69,Tryz.ntmps69
 go_wp2_with fail;go_end0;exact ⟨rfl,G.out⟩
theorem pz {a b:List UInt8} (h:Mac w0 w mb sb db s) (ha:s.space=ba a) (hl:a.length+1+b.length<=4000) :
  Calls Tryz.prog 124 #[.pointer (some ⟨mb,0,none⟩),.string (ba b)] w fun r w'=>r=.returned (.tuple #[])/\de w0 mb sb db w s w' (s.p.got a b):=by
 have c9:=h.b.at_ 9 _ rfl;have f9:=h.b.free 9;rw [ha] at c9;have H:=hid (fun w=>lV hl w);have G:=hid (de.set (s':={ s with space:=ba (a++10::b) }) h 9 (.string (ba (a++10::b))) (by omega) rfl rfl);go_enter Tryz.func124,Tryz.ntmps124
 go_wp2_with fail;refine (H.out _).mono ?_;rintro r w1 ⟨rfl,rfl⟩;go_wp2_with fail;go_end0;exact ⟨rfl,G.out⟩
theorem Ma {ca co k:Nat} (h:Mac w0 w mb sb db s) (hc:w.cell? ⟨ca,co+5,none⟩=some (.int .i64 k)) :
  Calls Tryz.prog 58 #[.pointer (some ⟨mb,0,none⟩),.pointer (some ⟨ca,co,none⟩)] w fun r w'=>r=.returned (.tuple #[])/\de w0 mb sb db w s w' (s.p.goto k):=by
 have c13:=h.b.at_ 13 _ rfl;have f13:=h.b.free 13;have G:=hid (de.set (s':={ s with pc:=k }) h 13 (.int .i64 k) (by omega) rfl rfl);go_enter Tryz.func58,Tryz.ntmps58
 go_wp2_with fail;go_end0;exact ⟨rfl,G.out⟩
theorem enter_v {cp:Value} (h:Mac w0 w mb sb db s) :
  Calls Tryz.prog 57 #[.pointer (some ⟨mb,0,none⟩),cp] w fun r w'=>r=.returned (.tuple #[])/\de w0 mb sb db w s w' s.p:=by
 go_enter Tryz.func57,Tryz.ntmps57
 go_wp2_with fail;go_end0;exact ⟨rfl,de.refl h⟩
end
end Go.Proofs.YtiahkfoojjpaaaaGreatDoor
namespace Go.Proofs.YtiahkfoojjpaaaaGreatDoor
open Go.RowKit Go.Shelf
attribute [local go_sem] Oper.semAt_some
variable {Z:List (Nat×Obj)}
def Ix (W:World) (n:Nat):World:={ W with heap:=W.heap.extract 0 n }
theorem jy {W:World} {n:Nat} (h:n<=W.heap.size):(Ix W n).heap.size=n:=by
 show (W.heap.extract 0 n).size=n;rw [Array.size_extract];omega
theorem Cf {W:World} {n j:Nat} (h:n<=W.heap.size) (hj:j < n):(Ix W n).heap[j]? = W.heap[j]?:=by
 show (W.heap.extract 0 n)[j]? = _;rw [Array.getElem?_extract,Ny (by omega)]
 congr 1;omega
theorem cutW_kp {W:World} {n:Nat} (h:n<=W.heap.size):Kp [] (Ix W n) W:=
 ⟨rfl,rfl,rfl,by rw [jy h];exact h,fun j hj _=>(Cf h (by rw [jy h] at hj;exact hj)).symm⟩
theorem Cd.blocks {w w2:World} {p g c n D:Nat} {cd:Nat->In} (h:Cd w p g c n D cd) (e1:w2.heap[p]? = w.heap[p]?) (e2:w2.heap[g]? = w.heap[g]?):Cd w2 p g c n D cd:=by
 have cg:∀ i,w2.cell? ⟨g,i,none⟩=w.cell? ⟨g,i,none⟩:=fun i=>World.cell?_of_block e2;have cp:∀ i,w2.cell? ⟨p,i,none⟩=w.cell? ⟨p,i,none⟩:=fun i=>World.cell?_of_block e1;have l1:p < w2.heap.size:=lt_of_block (e1.trans (Oc h.hp));have l2:g < w2.heap.size:=lt_of_block (e2.trans (Oc h.hg))
 exact ⟨l1,l2,(cp _).trans h.p0,(cp _).trans h.p3,fun a ha=>(cg _).trans (h.k0 a ha),fun a ha=>(cg _).trans (h.k1 a ha),fun a ha=>(cg _).trans (h.k2 a ha),fun a ha=>(cg _).trans (h.k3 a ha),fun a ha=>(cg _).trans (h.k4 a ha),
  fun a ha=>(cg _).trans (h.k5 a ha),fun a ha=>(cg _).trans (h.k6 a ha),fun a ha=>(cg _).trans (h.k7 a ha),fun a ha=>(cg _).trans (h.k8 a ha),h.ok⟩
section
variable {w W W':World} {f p sb N pl:Nat} {text:ByteArray} {here:List Thr} {v3 v4 v5:Value} {s:Mc}
theorem Fg.Gf {S:List Nat} {Z2:List (Nat×Obj)} (h:Fg Z w W f p sb N pl text here v3 v4 v5 s) (k:Kp S W W') (hS:∀ T∈S,T < w.heap.size\/∃ o,(T,o)∈Z) (hZ:∀ e∈Z2,W'.heap[e.1]? = some e.2/\((∃ o,(e.1,o)∈Z)\/W.heap.size<=e.1)) :
  Fg Z2 (Ix W' w.heap.size) W' f p sb N pl text here v3 v4 v5 s:=by
 have hz:w.heap.size<=W'.heap.size:=Nx h.kp.size k.size;have hsz:=jy hz;have hf:=h.flt;have nS:∀ T,w.heap.size<=T->(∀ e∈Z,e.1≠T)->T∉S:=fun T hT hn m=>by
  rcases hS T m with q | ⟨o,q⟩
  .omega
  .exact hn _ q rfl
 have hfS:f∉S:=nS f h.flo (fun e he=>(h.fx e he).2.1);have hsS:sb∉S:=nS sb h.slo (fun e he=>(h.fx e he).2.2.1);have n3:∀ j,v3.ownBlock=some j->j∉S:=fun j hj=>nS j (h.o3.lt j hj).1 (fun e he q=>(h.fx e he).2.2.2.1 (by rw [q];exact hj));have n4:∀ j,v4.ownBlock=some j->j∉S:=fun j hj=>nS j (h.o4.lt j hj).1 (fun e he q=>(h.fx e he).2.2.2.2.1 (by rw [q];exact hj));have n5:∀ j,v5.ownBlock=some j->j∉S:=fun j hj=>nS j (h.o5.lt j hj).1 (fun e he q=>(h.fx e he).2.2.2.2.2 (by rw [q];exact hj));have cf:∀ i,W'.cell? ⟨f,i,none⟩=W.cell? ⟨f,i,none⟩:=fun i=>k.cell (p:=⟨f,i,none⟩) hf hfS;have ff:∀ i,W'.frozen? ⟨f,i,none⟩=W.frozen? ⟨f,i,none⟩:=fun i=>k.frozen (p:=⟨f,i,none⟩) hf hfS;have z3:∀ e∈Z2,e.1≠f/\e.1≠sb/\v3.ownBlock≠some e.1/\v4.ownBlock≠some e.1/\v5.ownBlock≠some e.1:=fun e he=>by
  rcases (hZ e he).2 with ⟨o,q⟩ | q
  .exact (h.fx _ q).2
  .have:=h.slt;exact ⟨by omega,by omega,fun r=>by have:=(h.o3.lt _ r).2;omega,fun r=>by have:=(h.o4.lt _ r).2;omega,fun r=>by have:=(h.o5.lt _ r).2;omega⟩
 refine ⟨cutW_kp hz,by rw [hsz];exact h.flo,by rw [hsz];exact h.slo,h.ne,(cf _).trans h.c0,(cf _).trans h.c1,(cf _).trans h.c2,(cf _).trans h.c3,(cf _).trans h.c4,(cf _).trans h.c5,(cf _).trans h.c6,(cf _).trans h.c7,fun j v hv=>(cf _).trans (h.eX j v hv),fun i=>(ff i).trans (h.free i),Ns h.slt k.size,fun i hi=>?_,
  by rw [hsz];exact au h.o3 (fun j hj hl=>k.block j hl (n3 j hj)),by rw [hsz];exact au h.o4 (fun j hj hl=>k.block j hl (n4 j hj)),by rw [hsz];exact au h.o5 (fun j hj hl=>k.block j hl (n5 j hj)),h.x3,h.x4,h.x5,fun e he=>⟨(hZ e he).1,z3 e he⟩⟩
 have q:=h.seen i hi;exact ⟨(k.cell (p:=⟨sb,i,none⟩) h.slt hsS).trans q.1,(k.frozen (p:=⟨sb,i,none⟩) h.slt hsS).trans q.2⟩
end
