import Derived.Test.YtnfglkdkmcocnaaGreatDoorR47
import Derived.Test.YtnfglkdkmcocnaaGreatDoorR50
import Derived.LaidMore
import Derived.Lay
import Derived.Stop.Joined
set_option maxRecDepth 100000
set_option maxHeartbeats 16000000
set_option linter.all false
namespace Go.Proofs.YtnfglkdkmcocnaaGreatDoor
open Go.RowKit
section
variable {w0 w:World} {wb n:Nat} {iv:Value} {es:List Be} {src text:ByteArray}
theorem own_form2 {w:World} {B n:Nat} {v:Value} {xs:List Value} (h:w.ownsRow B 3 1 v n xs):∃ A c,v=.slice A n c∧∀ i,i < n→∃ g,A=some ⟨g,0,none⟩∧g < w.heap.size∧w.cell? ⟨g,i,none⟩=xs[i]?:=by
 rcases h.2 with ⟨q1,q2⟩ | ⟨g,c,cur,q1,_⟩
 ·exact ⟨none,0,by rw [q1,q2],fun i hi=>absurd hi (by omega)⟩
 ·refine ⟨_,c,q1,fun i hi=>⟨g,rfl,(h.lt g (by rw [q1];rfl)).2,?_⟩⟩
  have hl:i < xs.length:=by have:=h.1;omega
  have:=h.cells (g:=g) (by rw [q1];rfl) i _ (List.getElem?_eq_getElem hl)
  rw [Addr.add_mid,Nat.zero_add] at this
  rw [this,List.getElem?_eq_getElem hl]
theorem matched_any (h:Bkx w0 w wb iv es n) (hw:Nm w) (hs:src.size < 4611686018427387904) (ht:text.size < 4611686018427387904) (hn:n≤2000000) (hl:es.length≤2000000) :
  Calls Tryz.prog 7 #[.pointer (some ⟨wb,0,none⟩),.string src,.string text] w fun e w'=>e=.returned (.bool true)∧∃ iv' e',Bkx w0 w' wb iv' (es++[e']) (n+1):=by
 obtain ⟨X,hX⟩:∃ X,X=mtX text (matE src text):=⟨_,rfl⟩
 have HP:Hid (Calls Tryz.prog 19 #[.string src,.string text] w fun e w1=>∃ lv,e=.returned (.tuple #[lv,.int .i64 (X.2.1:Nat),.int .i64 (X.2.2:Nat)])∧w1.ownsRow w.heap.size 3 1 lv X.1.length (X.1.map (Value.int .i64))∧Kp [] w w1∧X.1.length≤20):=hid ((matchP_any hs hw).mono fun e w1 hm=>by rw [hX];exact hm.gen)
 have HR:Hid (∀ w1,Calls Tryz.prog 20 #[.string src,.string text] w1 fun e w2=>∃ lv,e=.returned (.tuple #[lv,.int .i64 (X.2.1:Nat),.int .i64 (X.2.2:Nat)])∧w2.ownsRow w1.heap.size 3 1 lv X.1.length (X.1.map (Value.int .i64))∧Kp [] w1 w2∧X.1.length≤20):=hid (fun w1=>(matchR_all hs ht w1).mono fun e w2 hm=>by rw [hX];exact hm.gen)
 obtain ⟨xs,E,at_⟩:=X
 have HB:=hid h
 clear h hw hX
 go_enter Tryz.func7,Tryz.ntmps7
 go_wp2_with fail
 refine HP.out.mono ?_
 rintro e w1 ⟨lv,rfl,o1,k1,hx⟩
 have H1:=hid (And.intro o1 k1)
 obtain ⟨lA,lc,rfl,hlc⟩:=own_form2 o1
 have HL:=hid hlc
 clear o1 k1 hlc HP
 go_wp2_with fail
 refine (HR.out w1).mono ?_
 rintro e w2 ⟨mv,rfl,o2,k2,_⟩
 obtain ⟨mA,mc,rfl,hmc⟩:=own_form2 o2
 have H2:=hid (And.intro k2 hmc)
 clear o2 k2 hmc HR
 have hx:xs.length≤20:=hx
 go_wp2_with fail
 go_loopw [13,14] (fun ok ix wr=>∃ i:Nat,ok=.bool true∧ix=.int .i64 i∧i≤xs.length∧Kp [] w2 wr) (fun _ ix _=>2000 - (intOf ix).toNat)
 case atStart=>exact ⟨0,rfl,rfl,Nat.zero_le _,Kp.refl _ _⟩
 case round=>
  obtain ⟨i,rfl,rfl,hi,kr⟩:=hrel
  by_cases hil:i < xs.length
  ·obtain ⟨g1,rfl,hg1,d1⟩:=HL.out i hil
   obtain ⟨g2,rfl,hg2,d2⟩:=H2.out.2 i hil
   have ex:((xs,E,at_).1.map (Value.int .i64))[i]? = some (.int .i64 (xs[i]'hil)):=by
    show (xs.map _)[i]? = _
    rw [List.getElem?_map,List.getElem?_eq_getElem hil];rfl
   rw [ex] at d1 d2
   have d1:=((H2.out.1.trans kr).cell (p:=⟨g1,i,none⟩) hg1 (by simp)).trans d1
   have d2:=(kr.cell (p:=⟨g2,i,none⟩) hg2 (by simp)).trans d2
   generalize xs[i]'hil=z at d1 d2
   have q1:(i:Int) < (xs.length:Int):=by omega
   have q2:(0:Int)≤(i:Int):=by omega
   have hc1:IntKind.i64.wrap ((i:Int)+1)=((i+1:Nat):Int):=wrap_i64_succ i (i+1) rfl (by omega)
   clear ex
   go_wp2_with fail
   go_quiet (fail)
   go_wp2_with fail
   go_roundw
   ·exact ⟨i+1,by simp,by go_num,by omega,kr.trans (Kp.drewN [] wr nq)⟩
   ·simp [intOf];omega
  ·have q1:¬ (i:Int) < (xs.length:Int):=by omega
   have hI:=ints_any (w:=wr) HB.out (H1.out.2.trans (H2.out.1.trans kr)) (own_kp (own_kp H1.out.1 H2.out.1 (by simp)) kr (by simp)) hx hn hl
   have HI:=hid hI
   clear hI
   go_wp2_with fail
   refine HI.out.mono ?_
   rintro e w3 ⟨rfl,hB⟩
   have H3:=hid hB
   clear hB
   go_wp2_with fail
   go_ret
   exact ⟨rfl,H3.out⟩
end
section
variable {w0 w:World} {wb n:Nat} {iv:Value} {es:List Be} {src text:ByteArray}
theorem step_match (a:Int) (h:Bkx w0 w wb iv es n) (hw:Nm w) (hs:src.size < 4611686018427387904) (ht:text.size < 4611686018427387904) (hn:n≤2000000) (hl:es.length≤2000000) :
  Calls Tryz.prog 5 #[.pointer (some ⟨wb,0,none⟩),.agg #[.int .i64 1,.int .i64 a,.string src,.string text],.bool false] w fun e w'=>e=.returned (.bool true)∧∃ iv' e',Bkx w0 w' wb iv' (es++[e']) (n+1):=by
 have ka:=Kp.alloc [] w (.cells #[.int .i64 1,.int .i64 a,.string src,.string text] 36)
 have HM:=hid (matched_any (h.keep ka) (hw.keep ka (by simp)) hs ht hn hl)
 clear h hw ka
 go_enter Tryz.func5,Tryz.ntmps5
 go_wp2_with fail
 refine HM.out.mono ?_
 rintro e w3 ⟨rfl,hB⟩
 have H3:=hid hB
 clear hB
 go_wp2_with fail
 go_ret
 exact ⟨rfl,H3.out⟩
theorem step_none {kd:Int} (a:Int) (hk:kd≤0) :
  Calls Tryz.prog 5 #[.pointer (some ⟨wb,0,none⟩),.agg #[.int .i64 kd,.int .i64 a,.string src,.string text],.bool false] w fun e w'=>e=.returned (.bool true)∧Kp [] w w':=by
 have ka:=Kp.alloc [] w (.cells #[.int .i64 kd,.int .i64 a,.string src,.string text] 36)
 have HA:=hid ka
 have q1:(kd == 1)=false:=by rw [beq_eq_false_iff_ne];omega
 have q2:(kd == 2)=false:=by rw [beq_eq_false_iff_ne];omega
 have q3:¬ 3≤kd:=by omega
 have q6:(kd == 6)=false:=by rw [beq_eq_false_iff_ne];omega
 have q7:(kd == 7)=false:=by rw [beq_eq_false_iff_ne];omega
 have q8:(kd == 8)=false:=by rw [beq_eq_false_iff_ne];omega
 clear ka
 go_enter Tryz.func5,Tryz.ntmps5
 go_wp2_with fail
 go_ret
 exact ⟨rfl,HA.out⟩
end
structure OpsIn (w:World) (A:Option Addr) (L:Nat) (z:Nat→Int×Int×ByteArray×ByteArray):Prop where
 at_:∀ j,j < L→∃ b o,A=some ⟨b,o,none⟩∧b < w.heap.size∧w.rangeAt b (o+j * 4) [.int .i64 (z j).1,.int .i64 (z j).2.1,.string (z j).2.2.1,.string (z j).2.2.2]
 sz:∀ j,j < L→(z j).2.2.1.size < 4611686018427387904∧(z j).2.2.2.size < 4611686018427387904
theorem Tryz.szOp:(Tryz.prog.info? 36).map (·.size)=some 4:=by kernel_rfl
theorem built_world:Tryz.prog.built 33 []=some [.slice none 0 0,.slice none 0 0,.int .i64 0,.slice none 0 0,.slice none 0 0].toArray:=by kernel_rfl
theorem built_op (s t:ByteArray):Tryz.prog.built 36 [(0,.int .i64 1),(2,.string s),(3,.string t)]=some [.int .i64 1,.int .i64 0,.string s,.string t].toArray:=by kernel_rfl
theorem Bkx.begin (w:World) (T:TypeId):Bkx w (w.alloc (.cells [.slice none 0 0,.slice none 0 0,.int .i64 0,.slice none 0 0,.slice none 0 0].toArray T)) w.heap.size (.slice none 0 0) [] 0:=
 ⟨Kp.alloc _ _ _,Bl.alloc w _ T,Nat.le_refl _,World.ownsRow_nil _ _ _ _,fun e=>(by cases e),fun e he=>(by cases he)⟩
theorem plays_any {A:Option Addr} {L c:Nat} {z:Nat→Int×Int×ByteArray×ByteArray} {w:World} (hL:L≤1048576) (hz:OpsIn w A L z) (hw:Nm w) :
  Calls Tryz.prog 4 #[.slice A L c,.int .i64 1,.bool false] w fun e w'=>e=.returned (.bool true)∧Kp [] w w':=by
 have HZ:=hid hz
 have HW:=hid hw
 obtain ⟨wb,hwb⟩:∃ wb,wb=w.heap.size:=⟨_,rfl⟩
 obtain ⟨w1,hw1⟩:∃ w1,w1=w.alloc (.cells [.slice none 0 0,.slice none 0 0,.int .i64 0,.slice none 0 0,.slice none 0 0].toArray 33):=⟨_,rfl⟩
 have B1:Hid (Bkx w w1 wb (.slice none 0 0) [] 0):=hid (by rw [hw1,hwb];exact Bkx.begin w _)
 have HBW:Hid (Tryz.prog.built 33 []=some [.slice none 0 0,.slice none 0 0,.int .i64 0,.slice none 0 0,.slice none 0 0].toArray):=hid built_world
 clear hz hw
 go_enter Tryz.func4,Tryz.ntmps4
 go_upto_region 2 with (show wpList _ _ _ (⟨_,.build 33 _,_,_,_,_⟩::_) _ _;refine wpList_bld rfl 33 [] rfl [] _ rfl HBW.out ?_)
 rw [←hw1,←hwb]
 clear hw1 hwb
 obtain ⟨s1,hs1⟩:∃ s1:ByteArray,s1={ data:=#[97,40,98,124,98,99,41,99,63] }:=⟨_,rfl⟩
 obtain ⟨s2,hs2⟩:∃ s2:ByteArray,s2={ data:=#[120,97,98,99,100] }:=⟨_,rfl⟩
 have HO:Hid (Tryz.prog.built 36 [(0,.int .i64 1),(2,.string { data:=#[97,40,98,124,98,99,41,99,63] }),(3,.string { data:=#[120,97,98,99,100] })]=some [.int .i64 1,.int .i64 0,.string s1,.string s2].toArray):=hid (by rw [hs1,hs2];exact built_op _ _)
 have HSM:=hid (step_match (src:=s1) (text:=s2) 0 B1.out (HW.out.keep B1.out.kp (by simp)) (by rw [hs1];decide) (by rw [hs2];decide) (by omega) (by show 0≤_;omega))
 clear hs1 hs2
 go_wp2_with (show wpList _ _ _ (⟨_,.build 36 _,_,_,_,_⟩::_) _ _;refine wpList_bld rfl 36 [(0,.const (.int .i64 1)),(2,.const (.string { data:=#[97,40,98,124,98,99,41,99,63] })),(3,.const (.string { data:=#[120,97,98,99,100] }))] rfl _ _ rfl HO.out ?_)
 refine HSM.out.mono ?_
 rintro e w2 ⟨rfl,iv,e1,hB2⟩
 have H2:=hid hB2
 clear hB2 HO HSM B1
 go_wp2_with fail
 go_loopw [8,11] (fun ok ix wr=>∃ i:Nat,ok=.bool true∧ix=.int .i64 i∧i≤L∧Hid (∃ iv es n,Bkx w wr wb iv es n∧n≤i+1∧es.length≤i+1)) (fun _ ix _=>3000000 - (intOf ix).toNat)
 case atStart=>exact ⟨0,rfl,rfl,Nat.zero_le _,hid ⟨iv,_,_,H2.out,Nat.le_refl _,Nat.le_refl _⟩⟩
 case round=>
  obtain ⟨i,rfl,rfl,hi,HR⟩:=hrel
  obtain ⟨iv,es,n,hB,hn,hel⟩:=HR.out
  by_cases hil:i < L
  ·obtain ⟨b,o,rfl,hb,RG⟩:=HZ.out.at_ i hil
   obtain ⟨hz1,hz2⟩:=HZ.out.sz i hil
   have RG:=rangeAt_keep RG hB.kp (by simp)
   obtain ⟨kd,hkd⟩:∃ kd,(z i).1=kd:=⟨_,rfl⟩
   obtain ⟨av,hav⟩:∃ av,(z i).2.1=av:=⟨_,rfl⟩
   obtain ⟨src,hsrc⟩:∃ src,(z i).2.2.1=src:=⟨_,rfl⟩
   obtain ⟨text,htext⟩:∃ text,(z i).2.2.2=text:=⟨_,rfl⟩
   rw [hkd,hav,hsrc,htext] at RG
   rw [hsrc] at hz1
   rw [htext] at hz2
   have d0:=RG 0 _ rfl
   rw [Nat.add_zero] at d0
   have RGH:=hid RG
   have HN:Hid (Nm wr):=hid (HW.out.keep hB.kp (by simp))
   have HB:=hid (And.intro hB (And.intro hn hel))
   have q1:(i:Int) < (L:Int):=by omega
   have q2:(0:Int)≤(i:Int):=by omega
   have hc1:IntKind.i64.wrap ((i:Int)+1)=((i+1:Nat):Int):=wrap_i64_succ i (i+1) rfl (by omega)
   clear hkd hav hsrc htext RG hB hn hel
   by_cases hk1:(1:Int) < kd
   ·go_wp2_with fail
    go_roundw
    ·obtain ⟨hB,hn,hel⟩:=HB.out
     exact ⟨i+1,rfl,by go_num,by omega,hid ⟨iv,es,n,hB,by omega,by omega⟩⟩
    ·simp [intOf];omega
   ·by_cases hk2:kd=1
    ·subst hk2
     have HSM:=hid (step_match (src:=src) (text:=text) av HB.out.1 HN.out hz1 hz2 (by have:=HB.out;omega) (by have:=HB.out;omega))
     go_wp2_with (show wpList _ _ _ (⟨_,.load 36 _,_,_,_,_⟩::_) _ _;refine wpList_load_mid rfl 36 (.tmp 83) rfl b (o+i * 4) rfl [.int .i64 1,.int .i64 av,.string src,.string text] _ RGH.out Tryz.underlying36 rfl Tryz.szOp ?_)
     refine HSM.out.mono ?_
     rintro e w3 ⟨rfl,iv3,e3,hB3⟩
     have H3:=hid hB3
     have HLK:=hid (looks_any hB3 (by rw [List.length_append];show es.length+1≤_;have:=HB.out;omega))
     clear hB3 HSM RGH
     go_wp2_with fail
     refine HLK.out.mono ?_
     rintro e w4 ⟨rfl,k4⟩
     have H4:=hid (H3.out.keep k4)
     clear k4 HLK
     go_wp2_with fail
     go_roundw
     ·obtain ⟨hB,hn,hel⟩:=HB.out
      exact ⟨i+1,rfl,by go_num,by omega,hid ⟨iv3,_,_,H4.out,by omega,by rw [List.length_append];show es.length+1≤_;omega⟩⟩
     ·simp [intOf];omega
    ·have HSM:=hid (step_none (w:=wr) (wb:=wb) (src:=src) (text:=text) av (show kd≤0 by omega))
     go_wp2_with (show wpList _ _ _ (⟨_,.load 36 _,_,_,_,_⟩::_) _ _;refine wpList_load_mid rfl 36 (.tmp 83) rfl b (o+i * 4) rfl [.int .i64 kd,.int .i64 av,.string src,.string text] _ RGH.out Tryz.underlying36 rfl Tryz.szOp ?_)
     refine HSM.out.mono ?_
     rintro e w3 ⟨rfl,k3⟩
     have H3:=hid (HB.out.1.keep k3)
     have HLK:=hid (looks_any H3.out (by have:=HB.out;omega))
     clear k3 HSM RGH
     go_wp2_with fail
     refine HLK.out.mono ?_
     rintro e w4 ⟨rfl,k4⟩
     have H4:=hid (H3.out.keep k4)
     clear k4 HLK
     go_wp2_with fail
     go_roundw
     ·obtain ⟨hB,hn,hel⟩:=HB.out
      exact ⟨i+1,rfl,by go_num,by omega,hid ⟨iv,es,n,H4.out,by omega,by omega⟩⟩
     ·simp [intOf];omega
  ·have q1:¬ (i:Int) < (L:Int):=by omega
   have HB:=hid hB
   clear hB hn hel
   go_wp2_with fail
   go_loopw [8,13] (fun ok ix wr2=>ok=.bool true∧ix=.int .i64 0∧Hid (Bkx w wr2 wb iv es n)) (fun _ _ _=>0)
   case atStart=>exact ⟨rfl,rfl,HB⟩
   case round=>
    obtain ⟨rfl,rfl,HB2⟩:=hrel
    have d1:=HB2.out.bl.at_ 1 _ rfl
    go_wp2_with fail
    go_loopw [8,16] (fun ok ix wr3=>ok=.bool true∧ix=.int .i64 0∧Hid (Bkx w wr3 wb iv es n)) (fun _ _ _=>0)
    case atStart=>exact ⟨rfl,rfl,HB2⟩
    case round=>
     obtain ⟨rfl,rfl,HB3⟩:=hrel
     have d2:=HB3.out.bl.at_ 0 _ rfl
     go_wp2_with fail
     go_ret
     exact ⟨rfl,HB3.out.kp⟩
theorem matches_any {A:Option Addr} {L c:Nat} {z:Nat→Int×Int×ByteArray×ByteArray} {w:World} (hL:L≤1048576) (hz:OpsIn w A L z) (hw:Nm w) :
  Calls Tryz.prog 3 #[.slice A L c] w fun e w'=>e=.returned (.bool true)∧Kp [] w w':=by
 have HP:=hid (plays_any (c:=c) hL hz hw)
 clear hz hw
 go_enter Tryz.func3,Tryz.ntmps3
 go_wp2_with fail
 refine HP.out.mono ?_
 rintro e w3 ⟨rfl,k3⟩
 have H3:=hid k3
 clear k3
 go_wp2_with fail
 go_ret
 exact ⟨rfl,H3.out⟩
end Go.Proofs.YtnfglkdkmcocnaaGreatDoor
namespace Go.Proofs.YtnfglkdkmcocnaaGreatDoor
open Go.ChangeShapes Go.WideShapes Go.ChangeAt Go.RowKit
theorem own0:ownKnob Tryz.prog.godebug=none:=by kernel_rfl
abbrev laidK : List (String × DataW Unit) := [("math/bits.deBruijn32tab", Rows.laid_math_bits_deBruijn32tab), ("math/bits.deBruijn64tab", Rows.laid_math_bits_deBruijn64tab), ("internal/strconv.uint64pow10", Rows.laid_internal_strconv_uint64pow10), ("ribbon/pattern.names", Rows.laid_ribbon_pattern_names)]
theorem Tryz.laidOutG:laidOutB Tryz.prog=true:=by kernel_rfl
theorem gNamesF : Tryz.prog.globalNamed "ribbon/pattern.names" = some 4 := by kernel_rfl
theorem at_takeF {l:List Value} {k j:Nat} {v:Value} (h:(((l.drop k).take 2).drop j).take 1=[v]) (hj:j < 2):l[k+j]? = some v:=by
 have h2:=congrArg (fun x=>x[0]?) h
 simp only [List.getElem?_take,List.getElem?_drop,Nat.add_zero,List.getElem?_cons_zero] at h2
 rw [if_pos (by omega),if_pos hj] at h2
 exact h2
theorem bytes_eqF {s:ByteArray} {l:List UInt8} (h:s.data.toList=l):s=⟨l.toArray⟩:=by
 cases s;subst h;simp
theorem uEntryF:∃ fs:Array Field,Tryz.prog.underlying 363=some (.struct fs)∧∃ f0 f1,fs[0]? = some f0∧fs[1]? = some f1∧fs.size=2∧f0.type=9∧f0.offset=0∧f1.type=9∧f1.offset=1:=
 ⟨_,Tryz.underlying363,_,_,rfl,rfl,rfl,rfl,rfl,rfl,rfl⟩
theorem entry_ofF {W:World} (h:laidMetH Tryz.prog laidK W):∀ i,i < 7→∃ s t:ByteArray,W.cell? ⟨4,i * 2,none⟩=some (.string s)∧W.cell? ⟨4,i * 2+1,none⟩=some (.string t) ∧
  (match (Rows.laid_ribbon_pattern_names:DataW Unit) with | .agg l=>l | _=>[])[i]? = some (.agg [.lit (.string s.data.toList),.lit (.string t.data.toList)]):=by
 rw [MakeChecks.laidMetH_plain _ _ _ (by kernel_rfl)] at h
 obtain ⟨ps,hl,_,_⟩:=h
 obtain ⟨_,_,_,_,_,q1,_,_,_,_,hl1,_⟩:=hl
 obtain ⟨_,_,_,_,_,q2,_,_,_,_,hl2,_⟩:=hl1
 obtain ⟨_,_,_,_,_,q3,_,_,_,_,hl3,_⟩:=hl2
 obtain ⟨g,t,cs,fuel,p,q,hg,ht,hv,hd,_,_⟩:=hl3
 obtain rfl:=Option.some.inj (gNamesF.symm.trans hg)
 obtain rfl:=Option.some.inj ((show (Tryz.prog.globals[4]?).map (·.type)=some 364 by kernel_rfl).symm.trans ht)
 obtain ⟨xs,m,_,ex,_,hl,hel⟩:=DataW.trod_array Tryz.underlying364 hd
 have c2:Tryz.prog.cellsOf 363=2:=by kernel_rfl
 have c1:Tryz.prog.cellsOf 9=1:=by kernel_rfl
 have us:Tryz.prog.underlying 9=some .string:=by kernel_rfl
 obtain ⟨fs,ufs,f0,f1,e0,e1,esz,t0,o0,t1,o1⟩:=uEntryF
 intro i hi
 have hE:=hel i hi
 rw [c2,List.getElem?_eq_getElem (by omega)] at hE
 obtain ⟨ys,n,_,ey,_,hyl,hys⟩:=DataW.trod_struct ufs hE
 rw [esz] at hyl
 have h0:=hys 0 f0 e0
 have h1:=hys 1 f1 e1
 rw [t0,o0,c1,List.getElem?_eq_getElem (by omega)] at h0
 rw [t1,o1,c1,List.getElem?_eq_getElem (by omega)] at h1
 obtain ⟨s,es,es',_⟩:=DataW.trod_string us h0
 obtain ⟨u,eu,eu',_⟩:=DataW.trod_string us h1
 have d0:=at_takeF es (by omega)
 have d1:=at_takeF eu (by omega)
 refine ⟨s,u,?_,?_,?_⟩
 ·rw [World.var?_cell hg hv];simpa using d0
 ·rw [World.var?_cell hg hv];simpa using d1
 ·have e3:(xs.map (·.1))[i]? = some (.agg (ys.map (·.1))):=by rw [List.getElem?_map,List.getElem?_eq_getElem (by omega:i < xs.length),ey];rfl
  have e4:(Rows.laid_ribbon_pattern_names:DataW Unit)=.agg (xs.map (·.1)):=(Prod.mk.inj ex).1
  rw [e4]
  show (xs.map (·.1))[i]? = _
  rw [e3]
  match ys,hyl,es',eu' with
  | [y0,y1],_,es',eu'=>
   have a0:y0=_:=es'
   have a1:y1=_:=eu'
   rw [a0,a1];rfl
theorem nm_ofF {W:World} (h:laidMetH Tryz.prog laidK W):Nm W:=by
 have key:=entry_ofF h
 have all:∀ i,i < 7→W.cell? ⟨4,i * 2,none⟩=some (.string (nmN i))∧W.cell? ⟨4,i * 2+1,none⟩=some (.string (nmS i)):=by
  intro i hi
  obtain ⟨s,t,h1,h2,h3⟩:=key i hi
  match i,hi with
  | 0,_ | 1,_ | 2,_ | 3,_ | 4,_ | 5,_ | 6,_=>
   simp only [Rows.laid_ribbon_pattern_names,List.getElem?_cons_zero,List.getElem?_cons_succ,Option.some.injEq,DataW.agg.injEq,List.cons.injEq,DataW.lit.injEq,Lit.string.injEq,and_true] at h3
   rw [h1,h2,bytes_eqF h3.1.symm,bytes_eqF h3.2.symm]
   exact ⟨rfl,rfl⟩
 exact ⟨World.block_lt_of_cell? _ _ (all 0 (by omega)).1,fun i hi=>(all i hi).1,fun i hi=>(all i hi).2⟩
section
variable {H:Type}
theorem bulk_pos (d:DataW H):1≤Rows.uptoBulk d:=by
 cases d with
 | lit l=>cases l <;> (unfold Rows.uptoBulk;omega)
 | nil=>unfold Rows.uptoBulk;omega
 | ptr d=>unfold Rows.uptoBulk;omega
 | slice a b=>unfold Rows.uptoBulk;omega
 | agg a=>unfold Rows.uptoBulk;omega
 | iface a d=>unfold Rows.uptoBulk;omega
 | map a=>unfold Rows.uptoBulk;omega
 | held a=>unfold Rows.uptoBulk;omega
theorem bulk_len:∀ l:List (DataW H),l.length≤Rows.uptoBulkAll l
 | []=>Nat.zero_le _
 | d::l=>by
  have h1:=bulk_pos d
  have h2:=bulk_len l
  rw [Rows.uptoBulkAll,List.length_cons];omega
theorem bulk_mem:∀ (l:List (DataW H)) (d:DataW H),d∈l→Rows.uptoBulk d≤Rows.uptoBulkAll l
 | e::l,d,h=>by
  rw [Rows.uptoBulkAll]
  rcases List.mem_cons.1 h with rfl | h
  ·omega
  ·have:=bulk_mem l d h;omega
theorem bulk_str (s:List UInt8):Rows.uptoBulk (.lit (.string s):DataW H)=s.length+1:=by unfold Rows.uptoBulk;rfl
theorem bulk_slice (l m:List (DataW H)):Rows.uptoBulk (.slice l m)=Rows.uptoBulkAll l+Rows.uptoBulkAll m+1:=by unfold Rows.uptoBulk;rfl
theorem bulk_agg (l:List (DataW H)):Rows.uptoBulk (.agg l)=Rows.uptoBulkAll l+1:=by unfold Rows.uptoBulk;rfl
theorem uOpF:∃ fs:Array Field,Tryz.prog.underlying 36=some (.struct fs)∧∃ f0 f1 f2 f3,fs[0]? = some f0∧fs[1]? = some f1∧fs[2]? = some f2∧fs[3]? = some f3∧fs.size=4∧f0.type=3∧f0.offset=0∧f1.type=3∧f1.offset=1∧f2.type=9∧f2.offset=2∧f3.type=9∧f3.offset=3:=
 ⟨_,Tryz.underlying36,_,_,_,_,rfl,rfl,rfl,rfl,rfl,rfl,rfl,rfl,rfl,rfl,rfl,rfl,rfl⟩
theorem at_take1 {l:List Value} {j:Nat} {v:Value} (h:(l.drop j).take 1=[v]):l[j]? = some v:=by
 have h2:=congrArg (fun x=>x[0]?) h
 simpa using h2
theorem ops_of {enc:TypeId×Value→H} {W:World} {base:Nat} {v:Value} {d:DataW H} {p:List MemPlace} (hv:Value.okWide Tryz.prog W .any base 22 v) (h:DataW.Trod enc Tryz.prog W 0 (fun _=>true) true 22 v d p) (hb:Rows.uptoBulk d≤1048576) :
  ∃ A L c z,v=.slice A L c∧L≤1048576∧OpsIn W A L z:=by
 obtain ⟨a0,len,cap,rfl⟩:=okWide_slice Tryz.underlying22 hv
 obtain ⟨fuel,hf⟩:=h
 rcases Go.Deep.open_slice Tryz.underlying22 hf with ⟨hcs,hx⟩ | ⟨a,len',cap',m,n,D,Pl,hcs,_,hl,hm,hmm,hx,hall⟩
 ·simp [Value.cells] at hcs
  obtain ⟨rfl,rfl,rfl⟩:=hcs
  exact ⟨_,_,_,fun _=>(0,0,⟨#[]⟩,⟨#[]⟩),rfl,by omega,⟨fun j hj=>absurd hj (by omega),fun j hj=>absurd hj (by omega)⟩⟩
 ·simp [Value.cells] at hcs
  obtain ⟨rfl,rfl,rfl⟩:=hcs
  simp only [if_true] at hmm
  subst hmm
  obtain ⟨rfl,rfl⟩:=Prod.mk.inj hx
  rw [bulk_slice] at hb
  have hlen:len≤1048576:=by
   have:=bulk_len ((List.range len).map D)
   rw [List.length_map,List.length_range] at this
   omega
  have c4:Tryz.prog.cellsOf 36=4:=by kernel_rfl
  have ci:Tryz.prog.cellsOf 3=1:=by kernel_rfl
  have c1:Tryz.prog.cellsOf 9=1:=by kernel_rfl
  have us:Tryz.prog.underlying 9=some .string:=by kernel_rfl
  have ui:Tryz.prog.underlying 3=some (.int .i64):=by kernel_rfl
  obtain ⟨fs,ufs,f0,f1,f2,f3,e0,e1,e2,e3,esz,t0,o0,t1,o1,t2,o2,t3,o3⟩:=uOpF
  have hsp:∀ A:Addr,∀ u,W.cell? A=some u→A=⟨A.block,A.off,none⟩:=fun A u hA=>by
   unfold World.cell? at hA
   split at hA
   ·split at hA
    ·cases hA
    ·rename_i hs
     cases A with | mk b o s=>cases s with
      | none=>rfl
      | some s=>simp at hs
   ·cases hA
  have hA:0 < len→a=⟨a.block,a.off,none⟩∧a.block < W.heap.size:=fun h0=>by
   obtain ⟨cs,h1,_⟩:=hall 0 (by omega)
   rw [c4] at h1
   obtain ⟨_,hcl,hcell⟩:=World.cells?_some h1
   have h3:=hcell 0 (by omega)
   rw [List.getElem?_eq_getElem (by omega),show (a.add (0 * 4)).add 0=a by simp [Addr.add]] at h3
   exact ⟨hsp a _ h3,World.block_lt_of_cell? _ _ h3⟩
  have each:∀ i,i < len→∃ q:Int×Int×ByteArray×ByteArray,(∃ b o,a=⟨b,o,none⟩∧b < W.heap.size∧W.rangeAt b (o+i * 4) [.int .i64 q.1,.int .i64 q.2.1,.string q.2.2.1,.string q.2.2.2])∧q.2.2.1.size < 4611686018427387904∧q.2.2.2.size < 4611686018427387904:=by
   intro i hi
   obtain ⟨cs,h1,h2⟩:=hall i (by omega)
   rw [c4] at h1
   obtain ⟨_,hcl,hcell⟩:=World.cells?_some h1
   obtain ⟨ys,k,_,ey,_,hyl,hys⟩:=DataW.trod_struct ufs h2
   rw [esz] at hyl
   have g0:=hys 0 f0 e0
   have g1:=hys 1 f1 e1
   have g2:=hys 2 f2 e2
   have g3:=hys 3 f3 e3
   rw [t0,o0,ci,List.getElem?_eq_getElem (by omega)] at g0
   rw [t1,o1,ci,List.getElem?_eq_getElem (by omega)] at g1
   rw [t2,o2,c1,List.getElem?_eq_getElem (by omega)] at g2
   rw [t3,o3,c1,List.getElem?_eq_getElem (by omega)] at g3
   obtain ⟨x0,a0,_,_⟩:=DataW.trod_int ui g0
   obtain ⟨x1,a1,_,_⟩:=DataW.trod_int ui g1
   obtain ⟨s,a2,b2,_⟩:=DataW.trod_string us g2
   obtain ⟨u,a3,b3,_⟩:=DataW.trod_string us g3
   have a0:=at_take1 a0
   have a1:=at_take1 a1
   have a2:=at_take1 a2
   have a3:=at_take1 a3
   have hD:Rows.uptoBulk (D i)≤1048576:=by
    have:=bulk_mem ((List.range len).map D) (D i) (List.mem_map.2 ⟨i,List.mem_range.2 hi,rfl⟩)
    omega
   rw [(Prod.mk.inj ey).1,bulk_agg] at hD
   have m2:=bulk_mem (ys.map (·.1)) (ys[2]'(by omega)).1 (List.mem_map.2 ⟨_,List.getElem_mem _,rfl⟩)
   have m3:=bulk_mem (ys.map (·.1)) (ys[3]'(by omega)).1 (List.mem_map.2 ⟨_,List.getElem_mem _,rfl⟩)
   rw [b2] at m2
   rw [b3] at m3
   rw [bulk_str] at m2 m3
   have hs2:s.size=s.data.toList.length:=rfl
   have hs3:u.size=u.data.toList.length:=rfl
   refine ⟨(x0,x1,s,u),?_,by show s.size < _;omega,by show u.size < _;omega⟩
   have hcs:cs=[.int .i64 x0,.int .i64 x1,.string s,.string u]:=by
    match cs,hcl,a0,a1,a2,a3 with
    | [v0,v1,v2,v3],_,a0,a1,a2,a3=>
     simp at a0 a1 a2 a3
     rw [a0,a1,a2,a3]
   obtain ⟨ha,hbl⟩:=hA (by omega)
   refine ⟨a.block,a.off,ha,hbl,fun j u hu=>?_⟩
   have hj:j < 4:=(List.getElem?_eq_some_iff.1 hu).1
   have:=hcell j hj
   rw [hcs,ha,Addr.add_mid,Addr.add_mid] at this
   rw [this];exact hu
  obtain ⟨z,hz⟩:∃ z:Nat→Int×Int×ByteArray×ByteArray,∀ i,i < len→(∃ b o,a=⟨b,o,none⟩∧b < W.heap.size∧W.rangeAt b (o+i * 4) [.int .i64 (z i).1,.int .i64 (z i).2.1,.string (z i).2.2.1,.string (z i).2.2.2])∧(z i).2.2.1.size < 4611686018427387904∧(z i).2.2.2.size < 4611686018427387904:=
   ⟨fun i=>if h:i < len then Classical.choose (each i h) else (0,0,⟨#[]⟩,⟨#[]⟩),fun i hi=>by simp only [dif_pos hi];exact Classical.choose_spec (each i hi)⟩
  refine ⟨some a,len,_,z,rfl,hlen,⟨fun j hj=>?_,fun j hj=>(hz j hj).2⟩⟩
  obtain ⟨b,o,h1,h2,h3⟩:=(hz j hj).1
  exact ⟨b,o,by rw [h1],h2,h3⟩
end
