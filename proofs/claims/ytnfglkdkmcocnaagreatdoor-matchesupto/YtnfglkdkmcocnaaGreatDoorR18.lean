import Derived.Test.YtnfglkdkmcocnaaGreatDoorR17
import Derived.RegionDies
set_option maxRecDepth 100000
set_option maxHeartbeats 16000000
set_option linter.all false
namespace Go.Proofs.YtnfglkdkmcocnaaGreatDoor
open Go.RowKit
abbrev Flt (E k:Nat):Ending:=.panicked [{ v:=.iface 214 (.agg #[.int .i64 (E:Int),.int .i64 (k:Int)]),recovered:=false }]
def FailN (f:FuncId) (src:ByteArray) (k g pl:Nat):Prop:=∀ (w:World) (b:Nat),b≠4→Rd w b src k g→Nm w→Calls Tryz.prog f #[.pointer (some ⟨b,0,none⟩)] w fun e w'=>e=Flt 2 pl∧Kp [b] w w'
section
variable {w:World} {b k g pl:Nat} {src:ByteArray}
theorem giveUp_r (hr:Rd w b src k g):Calls Tryz.prog 164 #[.pointer (some ⟨b,0,none⟩)] w fun e w'=>e=Flt 2 k∧Kp [] w w':=by
 have c1:=hr.c1
 have ce:=hr.ce
 go_enter Tryz.func164,Tryz.ntmps164
 go_wp2_with fail
 go_region_dies
 all_goals exact ⟨rfl,rfl,Kp.drew [] w⟩
theorem expect_no (x:Int) (hr:Rd w b src k g) (h:saw src k x=false):Calls Tryz.prog 222 #[.pointer (some ⟨b,0,none⟩),.int .u8 x] w fun e w'=>e=Flt 2 k∧Kp [b] w w':=by
 go_enter Tryz.func222,Tryz.ntmps222
 go_wp2_with fail
 refine (take_no x hr h).mono ?_
 rintro e w1 ⟨rfl,r1,k1⟩
 go_wp2_with fail
 refine (giveUp_r r1).mono ?_
 rintro e w2 ⟨rfl,k2⟩
 go_wp2_with fail
 exact ⟨rfl,rfl,k1.trans (k2.mono (by simp))⟩
theorem whole_fail (h:FailN 162 src k g pl):FailN 111 src k g pl:=by
 intro w b hb0 hr hw
 go_enter Tryz.func111,Tryz.ntmps111
 go_wp2_with fail
 refine (h w b hb0 hr hw).mono ?_
 rintro e w1 ⟨rfl,k1⟩
 go_wp2_with fail
 exact ⟨rfl,rfl,k1⟩
theorem whole_left {l g':Nat} {p:Pi} (h:BranchesN src k l g g' p) (hl:l < src.size):FailN 111 src k g l:=by
 intro w b hb0 hr hw
 have he2:((l:Int) == (src.size:Int))=false:=by rw [beq_eq_false_iff_ne];omega
 go_enter Tryz.func111,Tryz.ntmps111
 go_wp2_with fail
 refine (h w b hb0 hr hw).mono ?_
 rintro e w1 ⟨i,rfl,htv,hpi,nd,r1,k1⟩
 clear nd htv hpi
 go_wp2_with fail
 refine (ended_r r1 he2).mono ?_
 rintro e w2 ⟨rfl,r2,k2⟩
 go_wp2_with fail
 refine (giveUp_r r2).mono ?_
 rintro e w3 ⟨rfl,k3⟩
 go_wp2_with fail
 exact ⟨rfl,rfl,k1.trans (k2.trans (k3.mono (by simp)))⟩
theorem piece_fail (h94:saw src k 94=false) (h36:saw src k 36=false) (h:FailN 265 src k g pl):FailN 242 src k g pl:=by
 intro w b hb0 hr hw
 have HB:Hid (4∉[b]):=hid (by simpa using Ne.symm hb0)
 go_enter Tryz.func242,Tryz.ntmps242
 go_wp2_with fail
 refine (take_no 94 hr h94).mono ?_
 rintro e w1 ⟨rfl,r1,k1'⟩
 go_wp2_with fail
 refine (take_no 36 r1 h36).mono ?_
 rintro e w2 ⟨rfl,r2,k2⟩
 go_wp2_with fail
 refine (h w2 b hb0 r2 ((hw.keep k1' HB.out).keep k2 HB.out)).mono ?_
 rintro e w3 ⟨rfl,k3⟩
 go_wp2_with fail
 exact ⟨rfl,rfl,k1'.trans (k2.trans k3)⟩
def RepF (src:ByteArray) (k g pl:Nat):Prop:=∀ (w:World) (b:Nat) (v:It),Rd w b src k g→Calls Tryz.prog 264 #[.pointer (some ⟨b,0,none⟩),v.v] w fun e w'=>e=Flt 2 pl∧Kp [b] w w'
theorem piece_rep {k1 g':Nat} {p:Pi} (h94:saw src k 94=false) (h36:saw src k 36=false) (ha:AtomN src k k1 g g' p) (hf:RepF src k1 g' pl):FailN 242 src k g pl:=by
 intro w b hb0 hr hw
 have HB:Hid (4∉[b]):=hid (by simpa using Ne.symm hb0)
 go_enter Tryz.func242,Tryz.ntmps242
 go_wp2_with fail
 refine (take_no 94 hr h94).mono ?_
 rintro e w1 ⟨rfl,r1,k1'⟩
 go_wp2_with fail
 refine (take_no 36 r1 h36).mono ?_
 rintro e w2 ⟨rfl,r2,k2⟩
 go_wp2_with fail
 refine (ha w2 b hb0 r2 ((hw.keep k1' HB.out).keep k2 HB.out)).mono ?_
 rintro e w3 ⟨i,rfl,hi,nd,r3,k3⟩
 have C:=hid (hf w3 b i r3)
 clear nd r3 hi
 go_wp2_with fail
 refine C.out.mono ?_
 rintro e w4 ⟨rfl,k4⟩
 go_wp2_with fail
 exact ⟨rfl,rfl,k1'.trans (k2.trans (k3.trans k4))⟩
def RowF (src:ByteArray) (pl:Nat):Nat→Nat→List Pi→Prop
 | k,g,[]=>k < src.size∧saw src k 124=false∧saw src k 41=false∧FailN 242 src k g pl
 | k,g,p::ps=>k < src.size∧saw src k 124=false∧saw src k 41=false∧∃ k1 g1,k < k1∧PieceN src k k1 g g1 p∧RowF src pl k1 g1 ps
def BrsF (src:ByteArray) (pl:Nat):Nat→Nat→List Pi→Prop
 | k,g,[]=>saw src k 124=true∧FailN 207 src (k+1) g pl
 | k,g,p::ps=>saw src k 124=true∧∃ k1 g1,k < k1∧BranchN src (k+1) k1 g g1 p∧BrsF src pl k1 g1 ps
end
theorem branchF_row {src:ByteArray} {k g pl:Nat} {ps:List Pi} (hp:RowF src pl k g ps) (hlen:ps.length≤200):FailN 207 src k g pl:=by
 intro w b hb0 hr hw
 have HB:Hid (4∉[b]):=hid (by simpa using Ne.symm hb0)
 have hbl:=hr.lt
 obtain ⟨i0,hi,hz0,hz1,hz2⟩:=info_parts Tryz.infoNode
 have HI:=hid (And.intro hi (And.intro hz0 (And.intro hz1 hz2)))
 clear hi hz0 hz1 hz2
 have HP:=hid hp
 have HR:=hid hr
 clear hp hr
 go_enter Tryz.func207,Tryz.ntmps207
 go_wp2_with fail
 go_loopw [3] (fun v wr=>∃ (k' g1:Nat) (done:List It) (rest:List Pi),ps=done.map It.pi++rest∧wr.ownsRow w.heap.size 220 1 v done.length (done.map It.v)∧(∀ i∈done,Item w.heap.size wr v i)∧Rd wr b src k' g1∧Kp [b] w wr∧RowF src pl k' g1 rest) (fun _ wr=>3000 - atOf wr b)
 case atStart=>exact ⟨k,g,[],ps,rfl,World.ownsRow_nil _ _ _ _,fun i hi=>(by cases hi),HR.out,Kp.refl _ _,HP.out⟩
 case round=>
  obtain ⟨k',g1,done,rest,hvs,own,nds,rd,kp,rok⟩:=hrel
  have OWN:=hid (And.intro own nds)
  have hsm:=rd.small
  cases rest with
  | nil=>
   obtain ⟨hk,h124,h41,pf⟩:=rok
   have he1:((k':Int) == (src.size:Int))=false:=by simp;omega
   have HV:=hid pf
   clear hvs pf own nds HR HP
   go_wp2_with fail
   refine (ended_r rd he1).mono ?_
   rintro e w1 ⟨rfl,r1,k1⟩
   go_wp2_with fail
   refine (sees_r 124 r1 h124).mono ?_
   rintro e w2 ⟨rfl,r2,k2⟩
   go_wp2_with fail
   refine (sees_r 41 r2 h41).mono ?_
   rintro e w3 ⟨rfl,r3,k3⟩
   have k3':Kp [b] wr w3:=k1.trans (k2.trans k3)
   have hw3:=hw.keep (kp.trans k3') HB.out
   clear r1 r2
   go_wp2_with fail
   refine (HV.out w3 b hb0 r3 hw3).mono ?_
   rintro e w4 ⟨rfl,k4⟩
   go_wp2_with fail
   exact ⟨rfl,rfl,kp.trans (k3'.trans k4)⟩
  | cons p rest=>
   obtain ⟨hk,h124,h41,k1',g1',hkl,pok,rok'⟩:=rok
   have he1:((k':Int) == (src.size:Int))=false:=by simp;omega
   have HV:=hid (And.intro hvs (And.intro pok rok'))
   have hdl:done.length≤1000:=by
    rw [hvs,List.length_append,List.length_map] at hlen
    omega
   clear hvs pok rok' own nds HR HP
   go_wp2_with fail
   refine (ended_r rd he1).mono ?_
   rintro e w1 ⟨rfl,r1,k1⟩
   go_wp2_with fail
   refine (sees_r 124 r1 h124).mono ?_
   rintro e w2 ⟨rfl,r2,k2⟩
   go_wp2_with fail
   refine (sees_r 41 r2 h41).mono ?_
   rintro e w3 ⟨rfl,r3,k3⟩
   have k3':Kp [b] wr w3:=k1.trans (k2.trans k3)
   have hw3:=hw.keep (kp.trans k3') HB.out
   clear r1 r2
   go_wp2_with fail
   refine (HV.out.2.1 w3 b hb0 r3 hw3).mono ?_
   rintro e w4 ⟨i,rfl,hpi,nd4,r4,k4⟩
   have kw4:Kp [b] w w4:=kp.trans (k3'.trans k4)
   have O4:=hid (ownsRow_keep OWN.out.1 (k3'.trans k4) (fun x hx=>by rw [List.mem_singleton.1 hx];exact hbl))
   have hz4:=kw4.size
   have N4:=hid (And.intro nd4 (And.intro hpi (And.intro (kp.trans k3').size k3'.size)))
   have K34:=hid (k3'.trans k4)
   clear r3 hw3 nd4 hpi
   obtain ⟨tv,htv⟩:∃ tv,i.tv=tv:=⟨_,rfl⟩
   obtain ⟨xv,hxv⟩:∃ xv,i.xv=xv:=⟨_,rfl⟩
   have hiv:i.v=.iface tv xv:=by unfold It.v;rw [htv,hxv]
   rw [hiv]
   have HIV:=hid hiv
   clear hiv htv hxv
   obtain ⟨dl,hdl'⟩:∃ dl,done.length=dl:=⟨_,rfl⟩
   have ow4:=O4.out
   rw [hdl'] at ow4 hdl
   have O4':=hid ow4
   have HDL:=hid hdl'
   clear ow4 hdl'
   go_wp2_with (at_builtin;refine wpList_append2 rfl _ _ 320 rfl w.heap.size 220 i0 .nilIface 1 16 Tryz.underlying320 HI.out.1 HI.out.2.1 HI.out.2.2.1 HI.out.2.2.2 rfl (by decide) _ dl _ rfl (O4'.out.alloc _) ⟨w4.heap.size,0,none⟩ 1 1 [.iface tv xv] rfl rfl ?c1 ?c2 ?c3 ?c4 ?c5 (by decide) ?_)
   case c1=>exact cell_one_new _ _ _
   case c2=>intro u hu;simp at hu;subst hu;rfl
   case c3=>unfold maxLen;omega
   case c4=>omega
   case c5=>simp;omega
   intro gg cc w5 hown hgrow hor
   have IT:=hid (row_more hbl OWN.out.2 OWN.out.1 K34.out N4.out.1 N4.out.2.2.1 N4.out.2.2.2 hgrow hor (n:=dl+1) (cc:=cc))
   have kg:=grown_kp hgrow
   have hge:∀ x,x∈(Value.ownBlock _).toList→w.heap.size≤x:=fun x hx=>(O4.out.lt x (by simpa using hx)).1
   have kw5:Kp [b] w w5:=⟨kg.os.trans kw4.os,kg.tape.trans kw4.tape,kg.output.trans kw4.output,Nat.le_trans kw4.size (Nat.le_trans (by simp) kg.size),fun q hq hn=>(kg.block q (by simp;omega) (fun e=>by have:=hge q e;omega)).trans (((Kp.alloc [] w4 _).block q (by omega) (by simp)).trans (kw4.block q hq hn))⟩
   have r5:=(r4.keep (Kp.alloc [] w4 (.cells #[.iface tv xv] 220)) (by simp)).keep kg (fun e=>by have:=hge b e;omega)
   have HD:=hid (And.intro hown (And.intro kw5 r5))
   have hat1:=atOf_rd rd
   have hat2:=atOf_rd r5
   have hls:=r5.le
   clear hown hgrow kw5 r5 kg hge hor
   go_wp2_with fail
   refine ⟨⟨k1',g1',done++[i],rest,?_,?_,IT.out,HD.out.2.2,HD.out.2.1,HV.out.2.2⟩,?_⟩
   ·rw [HV.out.1,List.map_append,List.map_singleton,N4.out.2.1,List.append_assoc];rfl
   ·have:=HD.out.1
    rw [List.length_append,List.length_singleton,HDL.out,List.map_append,List.map_singleton,HIV.out]
    exact this
   ·rw [hat1,hat2];omega
theorem branchesF_all {src:ByteArray} {k k0 g g0 pl:Nat} {p0:Pi} {ps:List Pi} (h0:BranchN src k k0 g g0 p0) (hp:BrsF src pl k0 g0 ps) (hlen:ps.length≤100):FailN 162 src k g pl:=by
 intro w b hb0 hr hw
 have HB:Hid (4∉[b]):=hid (by simpa using Ne.symm hb0)
 have hbl:=hr.lt
 obtain ⟨i0,hi,hz0,hz1,hz2⟩:=info_parts Tryz.infoNode
 have HI:=hid (And.intro hi (And.intro hz0 (And.intro hz1 hz2)))
 clear hi hz0 hz1 hz2
 have HP:=hid hp
 have C0:=hid (h0 w b hb0 hr hw)
 clear hp hr h0
 go_enter Tryz.func162,Tryz.ntmps162
 go_wp2_with fail
 refine C0.out.mono ?_
 rintro e w1 ⟨i,rfl,hpi,nd1,r1,k1⟩
 have hz1:=k1.size
 obtain ⟨tv,htv⟩:∃ tv,i.tv=tv:=⟨_,rfl⟩
 obtain ⟨xv,hxv⟩:∃ xv,i.xv=xv:=⟨_,rfl⟩
 have hiv:i.v=.iface tv xv:=by unfold It.v;rw [htv,hxv]
 rw [hiv]
 have N1:=hid (And.intro nd1 (And.intro hpi hiv))
 clear hiv htv hxv nd1 hpi C0
 go_wp2_with fail
 obtain ⟨o,ho⟩:∃ o:Obj,o=.cells #[.iface tv xv] 220:=⟨_,rfl⟩
 have k2:=Kp.alloc [] w1 o
 have r2:=r1.keep k2 (by simp)
 have ow2:(w1.alloc o).ownsRow w.heap.size 220 1 (.slice (some ⟨w1.heap.size,0,none⟩) 1 1) 1 [.iface tv xv]:=by
  refine ⟨rfl,.inr ⟨w1.heap.size,1,#[.iface tv xv],rfl,hz1,?_,Nat.le_refl _,by unfold maxLen;omega,rfl,rfl⟩⟩
  rw [ho];exact World.alloc_heap_new w1 _
 have it2:Item w.heap.size (w1.alloc o) (.slice (some ⟨w1.heap.size,0,none⟩) 1 1) i:=by
  refine ⟨w.heap.size,w1.heap.size,Nat.le_refl _,by simp,fun g e=>?_,N1.out.1.keep fun q _ q2=>k2.block q q2 (by simp)⟩
  have e:w1.heap.size=g:=by simpa [Value.ownBlock] using e
  rintro ⟨_,q⟩;omega
 have K2:Kp [b] w (w1.alloc o):=k1.trans (k2.mono (by simp))
 rw [←ho]
 have H2:=hid (And.intro ow2 (And.intro it2 (And.intro r2 K2)))
 generalize w1.alloc o=W2 at *
 clear ow2 it2 r2 K2 k2 r1 k1 ho
 generalize w1.heap.size=q0 at *
 go_loopw [3] (fun v wr=>∃ (k' g1:Nat) (done:List It) (rest:List Pi),p0::ps=done.map It.pi++rest∧0 < done.length∧wr.ownsRow w.heap.size 220 1 v done.length (done.map It.v)∧(∀ i∈done,Item w.heap.size wr v i)∧Rd wr b src k' g1∧Kp [b] w wr∧BrsF src pl k' g1 rest) (fun _ wr=>3000 - atOf wr b)
 case atStart=>
  obtain ⟨a1,a2,a3,a4⟩:=H2.out
  refine ⟨k0,g0,[i],ps,by rw [List.map_singleton,N1.out.2.1];rfl,by simp,?_,fun j hj=>by rw [List.mem_singleton.1 hj];exact a2,a3,a4,HP.out⟩
  rw [List.length_singleton,List.map_singleton,N1.out.2.2]
  exact a1
 case round=>
  obtain ⟨k',g1,done,rest,hvs,hdn,own,nds,rd,kp,rok⟩:=hrel
  have OWN:=hid (And.intro own nds)
  have hsm:=rd.small
  have hdl:done.length≤101:=by
   have:=congrArg List.length hvs
   simp at this
   omega
  cases rest with
  | nil=>
   obtain ⟨h124,pf⟩:=rok
   have HV:=hid pf
   clear hvs pf own nds H2 HP
   go_wp2_with fail
   refine (take_yes 124 rd h124).mono ?_
   rintro e w3 ⟨rfl,r3,k3'⟩
   have hw3:=hw.keep (kp.trans k3') HB.out
   go_wp2_with fail
   refine (HV.out w3 b hb0 r3 hw3).mono ?_
   rintro e w4 ⟨rfl,k4⟩
   go_wp2_with fail
   exact ⟨rfl,rfl,kp.trans (k3'.trans k4)⟩
  | cons p rest=>
   obtain ⟨h124,k1',g1',hkl,pok,rok'⟩:=rok
   have HV:=hid (And.intro hvs (And.intro pok rok'))
   clear hvs pok rok' own nds H2 HP
   go_wp2_with fail
   refine (take_yes 124 rd h124).mono ?_
   rintro e w3 ⟨rfl,r3,k3'⟩
   have hw3:=hw.keep (kp.trans k3') HB.out
   go_wp2_with fail
   refine (HV.out.2.1 w3 b hb0 r3 hw3).mono ?_
   rintro e w4 ⟨i4,rfl,hpi4,nd4,r4,k4⟩
   have kw4:Kp [b] w w4:=kp.trans (k3'.trans k4)
   have O4:=hid (ownsRow_keep OWN.out.1 (k3'.trans k4) (fun x hx=>by rw [List.mem_singleton.1 hx];exact hbl))
   have hz4:=kw4.size
   have N4:=hid (And.intro nd4 (And.intro hpi4 (And.intro (kp.trans k3').size k3'.size)))
   have K34:=hid (k3'.trans k4)
   clear r3 hw3 nd4 hpi4
   obtain ⟨tv4,htv⟩:∃ tv,i4.tv=tv:=⟨_,rfl⟩
   obtain ⟨xv4,hxv⟩:∃ xv,i4.xv=xv:=⟨_,rfl⟩
   have hiv:i4.v=.iface tv4 xv4:=by unfold It.v;rw [htv,hxv]
   rw [hiv]
   have HIV:=hid hiv
   clear hiv htv hxv
   obtain ⟨dl,hdl'⟩:∃ dl,done.length=dl:=⟨_,rfl⟩
   have ow4:=O4.out
   rw [hdl'] at ow4 hdl
   have O4':=hid ow4
   have HDL:=hid hdl'
   clear ow4 hdl'
   go_wp2_with (at_builtin;refine wpList_append2 rfl _ _ 302 rfl w.heap.size 220 i0 .nilIface 1 16 Tryz.underlying302 HI.out.1 HI.out.2.1 HI.out.2.2.1 HI.out.2.2.2 rfl (by decide) _ dl _ rfl (O4'.out.alloc _) ⟨w4.heap.size,0,none⟩ 1 1 [.iface tv4 xv4] rfl rfl ?c1 ?c2 ?c3 ?c4 ?c5 (by decide) ?_)
   case c1=>exact cell_one_new _ _ _
   case c2=>intro u hu;simp at hu;subst hu;rfl
   case c3=>unfold maxLen;omega
   case c4=>omega
   case c5=>simp;omega
   intro gg cc w5 hown hgrow hor
   have IT:=hid (row_more hbl OWN.out.2 OWN.out.1 K34.out N4.out.1 N4.out.2.2.1 N4.out.2.2.2 hgrow hor (n:=dl+1) (cc:=cc))
   have kg:=grown_kp hgrow
   have hge:∀ x,x∈(Value.ownBlock _).toList→w.heap.size≤x:=fun x hx=>(O4.out.lt x (by simpa using hx)).1
   have kw5:Kp [b] w w5:=⟨kg.os.trans kw4.os,kg.tape.trans kw4.tape,kg.output.trans kw4.output,Nat.le_trans kw4.size (Nat.le_trans (by simp) kg.size),fun q hq hn=>(kg.block q (by simp;omega) (fun e=>by have:=hge q e;omega)).trans (((Kp.alloc [] w4 _).block q (by omega) (by simp)).trans (kw4.block q hq hn))⟩
   have r5:=(r4.keep (Kp.alloc [] w4 (.cells #[.iface tv4 xv4] 220)) (by simp)).keep kg (fun e=>by have:=hge b e;omega)
   have HD:=hid (And.intro hown (And.intro kw5 r5))
   have hat1:=atOf_rd rd
   have hat2:=atOf_rd r5
   have hls:=r5.le
   clear hown hgrow kw5 r5 kg hge hor
   go_wp2_with fail
   refine ⟨⟨k1',g1',done++[i4],rest,?_,by simp,?_,IT.out,HD.out.2.2,HD.out.2.1,HV.out.2.2⟩,?_⟩
   ·rw [HV.out.1,List.map_append,List.map_singleton,N4.out.2.1,List.append_assoc];rfl
   ·have:=HD.out.1
    rw [List.length_append,List.length_singleton,HDL.out,List.map_append,List.map_singleton,HIV.out]
    exact this
   ·rw [hat1,hat2];omega
theorem branchesF_first {src:ByteArray} {k g pl:Nat} (h0:FailN 207 src k g pl):FailN 162 src k g pl:=by
 intro w b hb0 hr hw
 go_enter Tryz.func162,Tryz.ntmps162
 go_wp2_with fail
 refine (h0 w b hb0 hr hw).mono ?_
 rintro e w1 ⟨rfl,k1⟩
 go_wp2_with fail
 exact ⟨rfl,rfl,k1⟩
section
variable {w:World} {b k g pl:Nat} {src barred behind:ByteArray}
def ByteF (src barred behind:ByteArray) (k g pl:Nat):Prop:=∀ (w:World) (b:Nat),Rd w b src k g→Calls Tryz.prog 280 #[.pointer (some ⟨b,0,none⟩),.string barred,.string behind] w fun e w'=>e=Flt 2 pl∧Kp [b] w w'
theorem saw_end {x:Int} (hk:k=src.size):saw src k x=false:=by
 unfold saw
 rw [dif_neg (by omega)]
theorem ended_qv (hr:Rd w b src k g) {v:Bool} (h:((k:Int) == (src.size:Int))=v) (n:Nat) :
  Calls Tryz.prog 163 #[.pointer (some ⟨b,0,none⟩)] (w.drewN n) fun e w''=>e=.returned (.bool v)∧∃ m,w''=w.drewN m:=by
 have:=ended_q hr n
 rwa [h] at this
theorem byteF_end (hk:k=src.size):ByteF src barred behind k g k:=by
 intro w b hr
 have he:((k:Int) == (src.size:Int))=true:=by rw [hk];simp
 go_enter Tryz.func280,Tryz.ntmps280
 go_wp2_with (go_at_call 208;refine (take_no 92 hr (saw_end hk)).mono ?_;rintro e w1 ⟨rfl,h1,h2⟩)
 have HK:=hid hk
 clear hk
 go_quiet ((go_at_call 163;exact ended_qv h1 he _))
 go_wp2_with fail
 refine (giveUp_r (h1.drewN _)).mono ?_
 rintro e w2 ⟨rfl,k2⟩
 go_wp2_with fail
 exact ⟨rfl,rfl,h2.trans ((Kp.drewN _ _ _).trans (k2.mono (by simp)))⟩
theorem byteF_nl (hk:k < src.size) (h92:saw src k 92=false) (h10:saw src k 10=true):ByteF src barred behind k g k:=by
 intro w b hr
 have he:((k:Int) == (src.size:Int))=false:=by simp;omega
 go_enter Tryz.func280,Tryz.ntmps280
 go_wp2_with (go_at_call 208;refine (take_no 92 hr h92).mono ?_;rintro e w1 ⟨rfl,h1,h2⟩)
 go_quiet (first | (go_at_call 163;exact ended_qv h1 he _) | (go_at_call 216;exact sees_q 10 h1 h10 _))
 go_wp2_with fail
 refine (giveUp_r (h1.drewN _)).mono ?_
 rintro e w2 ⟨rfl,k2⟩
 go_wp2_with fail
 exact ⟨rfl,rfl,h2.trans ((Kp.drewN _ _ _).trans (k2.mono (by simp)))⟩
theorem byteF_bar {v:Int} (hk:k < src.size) (h92:saw src k 92=false) (h10:saw src k 10=false) (hbar:Lib.indexByte barred.data.toList src[k]=v) (hv:0≤v):ByteF src barred behind k g k:=by
 intro w b hr
 go_enter Tryz.func280,Tryz.ntmps280
 go_wp2_with (go_at_call 208;refine (take_no 92 hr h92).mono ?_;rintro e w1 ⟨rfl,h1,h2⟩)
 have c0:=h1.c0
 have c1:=h1.c1
 have hsm:=h1.small
 have he:((k:Int) == (src.size:Int))=false:=by simp;omega
 have hix:Lib.indexByte barred.data.toList ((src[k].toNat:Int)).toNat.toUInt8=v:=by simpa using hbar
 go_quiet (first | (go_at_call 163;exact ended_q h1 _) | (go_at_call 216;exact sees_q 10 h1 h10 _) | (go_at_call 249;exact index_q _ _ hix _ _))
 go_wp2_with fail
 refine (giveUp_r (h1.drewN _)).mono ?_
 rintro e w2 ⟨rfl,k2⟩
 go_wp2_with fail
 exact ⟨rfl,rfl,h2.trans ((Kp.drewN _ _ _).trans (k2.mono (by simp)))⟩
def EscF (src behind:ByteArray) (k g pl:Nat):Prop:=∀ (w:World) (b:Nat),Rd w b src k g→Calls Tryz.prog 287 #[.pointer (some ⟨b,0,none⟩),.string behind] w fun e w'=>e=Flt 2 pl∧Kp [b] w w'
theorem escF_end (hk:k=src.size):EscF src behind k g k:=by
 intro w b hr
 have he:((k:Int) == (src.size:Int))=true:=by rw [hk];simp
 go_enter Tryz.func287,Tryz.ntmps287
 go_wp2_with fail
 refine (take_no 110 hr (saw_end hk)).mono ?_
 rintro e w1 ⟨rfl,r1,k1⟩
 go_wp2_with fail
 refine (take_no 116 r1 (saw_end hk)).mono ?_
 rintro e w2 ⟨rfl,r2,k2⟩
 have HK:=hid hk
 clear hk
 go_wp2_with fail
 go_quiet ((go_at_call 163;exact ended_qv r2 he _))
 go_wp2_with fail
 refine (giveUp_r (r2.drewN _)).mono ?_
 rintro e w3 ⟨rfl,k3⟩
 go_wp2_with fail
 exact ⟨rfl,rfl,k1.trans (k2.trans ((Kp.drewN _ _ _).trans (k3.mono (by simp))))⟩
theorem escF_c {v:Int} (hk:k < src.size) (h1:saw src k 110=false) (h2:saw src k 116=false) (hix:Lib.indexByte behind.data.toList src[k]=v) (hv:v < 0):EscF src behind k g k:=by
 intro w b hr
 go_enter Tryz.func287,Tryz.ntmps287
 go_wp2_with fail
 refine (take_no 110 hr h1).mono ?_
 rintro e w1 ⟨rfl,r1,k1⟩
 go_wp2_with fail
 refine (take_no 116 r1 h2).mono ?_
 rintro e w2 ⟨rfl,r2,k2⟩
 have c0:=r2.c0
 have c1:=r2.c1
 have hsm:=r2.small
 have he:((k:Int) == (src.size:Int))=false:=by simp;omega
 have hix':Lib.indexByte behind.data.toList ((src[k].toNat:Int)).toNat.toUInt8=v:=by simpa using hix
 go_wp2_with fail
 go_quiet (first | (go_at_call 163;exact ended_q r2 _) | (go_at_call 249;exact index_q _ _ hix' _ _))
 go_wp2_with fail
 refine (giveUp_r (r2.drewN _)).mono ?_
 rintro e w3 ⟨rfl,k3⟩
 go_wp2_with fail
 exact ⟨rfl,rfl,k1.trans (k2.trans ((Kp.drewN _ _ _).trans (k3.mono (by simp))))⟩
theorem byteF_esc (h92:saw src k 92=true) (h:EscF src behind (k+1) g pl):ByteF src barred behind k g pl:=by
 intro w b hr
 go_enter Tryz.func280,Tryz.ntmps280
 go_wp2_with fail
 refine (take_yes 92 hr h92).mono ?_
 rintro e w1 ⟨rfl,r1,k1⟩
 go_wp2_with fail
 refine (h w1 b r1).mono ?_
 rintro e w2 ⟨rfl,k2⟩
 go_wp2_with fail
 exact ⟨rfl,rfl,k1.trans k2⟩
theorem atomF_byte (h40:saw src k 40=false) (h46:saw src k 46=false) (h91:saw src k 91=false) (h:ByteF src special escaped k g pl):FailN 265 src k g pl:=by
 intro w b _ hr _
 go_enter Tryz.func265,Tryz.ntmps265
 go_wp2_with fail
 refine (sees_r 40 hr h40).mono ?_
 rintro e w1 ⟨rfl,r1,k1⟩
 go_wp2_with fail
 refine (take_no 46 r1 h46).mono ?_
 rintro e w2 ⟨rfl,r2,k2⟩
 go_wp2_with fail
 refine (take_no 91 r2 h91).mono ?_
 rintro e w3 ⟨rfl,r3,k3⟩
 have C:=hid (h w3 b r3)
 unfold special escaped at C
 go_wp2_with fail
 refine C.out.mono ?_
 rintro e w4 ⟨rfl,k4⟩
 go_wp2_with fail
 exact ⟨rfl,rfl,k1.trans (k2.trans (k3.trans k4))⟩
theorem atomF_class (h40:saw src k 40=false) (h46:saw src k 46=false) (h91:saw src k 91=true) (h:FailN 279 src (k+1) g pl):FailN 265 src k g pl:=by
 intro w b hb0 hr hw
 have HB:Hid (4∉[b]):=hid (by simpa using Ne.symm hb0)
 go_enter Tryz.func265,Tryz.ntmps265
 go_wp2_with fail
 refine (sees_r 40 hr h40).mono ?_
 rintro e w1 ⟨rfl,r1,k1⟩
 go_wp2_with fail
 refine (take_no 46 r1 h46).mono ?_
 rintro e w2 ⟨rfl,r2,k2⟩
 go_wp2_with fail
 refine (take_yes 91 r2 h91).mono ?_
 rintro e w3 ⟨rfl,r3,k3⟩
 have C:=hid (h w3 b hb0 r3 (((hw.keep k1 HB.out).keep k2 HB.out).keep k3 HB.out))
 go_wp2_with fail
 refine C.out.mono ?_
 rintro e w4 ⟨rfl,k4⟩
 go_wp2_with fail
 exact ⟨rfl,rfl,k1.trans (k2.trans (k3.trans k4))⟩
theorem atomF_group (h40:saw src k 40=true) (h:FailN 277 src k g pl):FailN 265 src k g pl:=by
 intro w b hb0 hr hw
 have HB:Hid (4∉[b]):=hid (by simpa using Ne.symm hb0)
 go_enter Tryz.func265,Tryz.ntmps265
 go_wp2_with fail
 refine (sees_r 40 hr h40).mono ?_
 rintro e w1 ⟨rfl,r1,k1⟩
 go_wp2_with fail
 refine (h w1 b hb0 r1 (hw.keep k1 HB.out)).mono ?_
 rintro e w2 ⟨rfl,k2⟩
 go_wp2_with fail
 exact ⟨rfl,rfl,k1.trans k2⟩
theorem groupF_nine:FailN 277 src k 9 k:=by
 intro w b _ hr _
 have c2:=hr.c2
 go_enter Tryz.func277,Tryz.ntmps277
 go_wp2_with fail
 refine (giveUp_r hr).mono ?_
 rintro e w2 ⟨rfl,k2⟩
 go_wp2_with fail
 exact ⟨rfl,rfl,k2.mono (by simp)⟩
theorem groupF_in (hg:g < 9) (h40:saw src k 40=true) (hb:FailN 162 src (k+1) (g+1) pl):FailN 277 src k g pl:=by
 intro w b hb0 hr hw
 have HB:Hid (4∉[b]):=hid (by simpa using Ne.symm hb0)
 have c2:=hr.c2
 have f3:=hr.free 3
 obtain ⟨g1,hg1⟩:∃ g1:Nat,g1=g+1:=⟨_,rfl⟩
 have hsum:(g:Int)+1=(g1:Int):=by omega
 have wg:=wrap_i64_nat g1 (by omega)
 have hne:((g:Int) == 9)=false:=by rw [beq_eq_false_iff_ne];omega
 have r0:=hr.group g1
 have k0:Kp [b] w (w.setCell ⟨b,3,none⟩ (.int .i64 (g1:Int))):=Kp.setCell (S:=[b]) w (p:=⟨b,3,none⟩) (.int .i64 (g1:Int)) (by simp)
 have hw0:=hw.keep k0 HB.out
 rw [←hg1] at hb
 have HBR:=hid hb
 have R0:=hid (And.intro r0 (And.intro hw0 k0))
 have c3:=r0.c2
 clear hg1 hb r0 hw0 hr hw k0
 go_enter Tryz.func277,Tryz.ntmps277
 go_wp2_with fail
 refine (expect_yes 40 R0.out.1 h40).mono ?_
 rintro e w1 ⟨rfl,r1,k1⟩
 go_wp2_with fail
 refine (HBR.out w1 b hb0 r1 (R0.out.2.1.keep k1 HB.out)).mono ?_
 rintro e w2 ⟨rfl,k2⟩
 go_wp2_with fail
 exact ⟨rfl,rfl,R0.out.2.2.trans (k1.trans k2)⟩
theorem groupF_open {l g':Nat} {p:Pi} (hg:g < 9) (h40:saw src k 40=true) (hb:BranchesN src (k+1) l (g+1) g' p) (h41:saw src l 41=false):FailN 277 src k g l:=by
 intro w b hb0 hr hw
 have HB:Hid (4∉[b]):=hid (by simpa using Ne.symm hb0)
 have c2:=hr.c2
 have f3:=hr.free 3
 obtain ⟨g1,hg1⟩:∃ g1:Nat,g1=g+1:=⟨_,rfl⟩
 have hsum:(g:Int)+1=(g1:Int):=by omega
 have wg:=wrap_i64_nat g1 (by omega)
 have hne:((g:Int) == 9)=false:=by rw [beq_eq_false_iff_ne];omega
 have r0:=hr.group g1
 have k0:Kp [b] w (w.setCell ⟨b,3,none⟩ (.int .i64 (g1:Int))):=Kp.setCell (S:=[b]) w (p:=⟨b,3,none⟩) (.int .i64 (g1:Int)) (by simp)
 have hw0:=hw.keep k0 HB.out
 rw [←hg1] at hb
 have HBR:=hid hb
 have R0:=hid (And.intro r0 (And.intro hw0 k0))
 have c3:=r0.c2
 clear hg1 hb r0 hw0 hr hw k0
 go_enter Tryz.func277,Tryz.ntmps277
 go_wp2_with fail
 refine (expect_yes 40 R0.out.1 h40).mono ?_
 rintro e w1 ⟨rfl,r1,k1⟩
 go_wp2_with fail
 refine (HBR.out w1 b hb0 r1 (R0.out.2.1.keep k1 HB.out)).mono ?_
 rintro e w2 ⟨i,rfl,_,hpi,nd2,r2,k2⟩
 clear nd2 hpi c2 c3 f3
 go_wp2_with fail
 refine (expect_no 41 r2 h41).mono ?_
 rintro e w3 ⟨rfl,k3⟩
 go_wp2_with fail
 exact ⟨rfl,rfl,R0.out.2.2.trans (k1.trans (k2.trans k3))⟩
theorem repF_brace (h1:saw src k 42=false) (h2:saw src k 43=false) (h3:saw src k 63=false) (h4:saw src k 123=true) (h:∀ (w:World) (b:Nat),Rd w b src (k+1) g→Calls Tryz.prog 276 #[.pointer (some ⟨b,0,none⟩)] w fun e w'=>e=Flt 2 pl∧Kp [b] w w'):RepF src k g pl:=by
 intro w b i hr
 show Calls Tryz.prog 264 #[.pointer (some ⟨b,0,none⟩),.iface i.tv i.xv] w _
 have HH:=hid h
 clear h
 go_enter Tryz.func264,Tryz.ntmps264
 go_wp2_with fail
 refine (take_no 42 hr h1).mono ?_
 rintro e w1 ⟨rfl,r1,k1⟩
 go_wp2_with fail
 refine (take_no 43 r1 h2).mono ?_
 rintro e w2 ⟨rfl,r2,k2⟩
 go_wp2_with fail
 refine (take_no 63 r2 h3).mono ?_
 rintro e w3 ⟨rfl,r3,k3⟩
 go_wp2_with fail
 refine (take_yes 123 r3 h4).mono ?_
 rintro e w4 ⟨rfl,r4,k4⟩
 go_wp2_with fail
 refine (HH.out w4 b r4).mono ?_
 rintro e w5 ⟨rfl,k5⟩
 go_wp2_with fail
 exact ⟨rfl,rfl,k1.trans (k2.trans (k3.trans (k4.trans k5)))⟩
end
section
variable {w:World} {b k k1 l g pl least:Nat} {src:ByteArray}
def NumF (src:ByteArray) (k g pl:Nat):Prop:=∀ (w:World) (b:Nat),Rd w b src k g→Calls Tryz.prog 284 #[.pointer (some ⟨b,0,none⟩)] w fun e w'=>e=Flt 2 pl∧Kp [b] w w'
def UpF (src:ByteArray) (k g pl least:Nat):Prop:=∀ (w:World) (b:Nat),Rd w b src k g→Calls Tryz.prog 285 #[.pointer (some ⟨b,0,none⟩),.int .i64 least] w fun e w'=>e=Flt 2 pl∧Kp [b] w w'
def BndF (src:ByteArray) (k g pl:Nat):Prop:=∀ (w:World) (b:Nat),Rd w b src k g→Calls Tryz.prog 276 #[.pointer (some ⟨b,0,none⟩)] w fun e w'=>e=Flt 2 pl∧Kp [b] w w'
theorem numF_no (h:dig src k=false):NumF src k g k:=by
 intro w b hr
 go_enter Tryz.func284,Tryz.ntmps284
 go_wp2_with fail
 refine (digit_r hr h).mono ?_
 rintro e w1 ⟨rfl,r1,k1⟩
 go_wp2_with fail
 refine (giveUp_r r1).mono ?_
 rintro e w2 ⟨rfl,k2⟩
 go_wp2_with fail
 exact ⟨rfl,rfl,k1.trans (k2.mono (by simp))⟩
theorem numF_big {v:Nat} (hk:k < src.size) (hk2:k+1 < src.size) (d1:dig src k=true) (d2:dig src (k+1)=true) (hv:v=10 * ((src[k]'hk).toNat - 48)+((src[k+1]'hk2).toNat - 48)) (hv2:20 < v):NumF src k g (k+1):=by
 intro w b hr
 have hsm:=hr.small
 obtain ⟨_,q1,q2⟩:=dig_lt d1
 obtain ⟨_,q3,q4⟩:=dig_lt d2
 obtain ⟨v1,hw1⟩:∃ v1:Nat,v1=(src[k]).toNat - 48:=⟨_,rfl⟩
 have hsub:((src[k]).toNat:Int) - 48=(v1:Int):=by omega
 have w1:=wrap_u8_natP v1 (by omega)
 have w2:=wrap_i64_nat v1 (by omega)
 have hcmp:¬ (20:Int) < v1:=by omega
 obtain ⟨k1,hk1⟩:∃ k1:Nat,k1=k+1:=⟨_,rfl⟩
 have hsum:(k:Int)+1=(k1:Int):=by omega
 have wk:=wrap_i64_nat k1 (by omega)
 obtain ⟨v2,hw2⟩:∃ v2:Nat,v2=(src[k+1]).toNat - 48:=⟨_,rfl⟩
 obtain ⟨t1,ht1⟩:∃ t1:Nat,t1=10 * v1:=⟨_,rfl⟩
 have hmul:(10:Int) * (v1:Int)=(t1:Int):=by omega
 have w3:=wrap_i64_nat t1 (by omega)
 have hk1s:k1 < src.size:=by omega
 have e12:(src[k1]'hk1s)=src[k+1]:=by congr 1
 have hsub2:((src[k1]'hk1s).toNat:Int) - 48=(v2:Int):=by rw [e12];omega
 have w4:=wrap_u8_natP v2 (by omega)
 have hadd:(t1:Int)+(v2:Int)=(v:Int):=by omega
 have w5:=wrap_i64_nat v (by omega)
 have hcmp2:(20:Int) < v:=by omega
 have w6:=wrap_i64_nat v2 (by omega)
 rw [←hk1] at d2 ⊢
 have HV:=hid hk1
 clear hv hw1 hw2 ht1 hk1 e12 q1 q2 q3 q4 hv2
 go_enter Tryz.func284,Tryz.ntmps284
 go_wp2_with fail
 refine (digit_r hr d1).mono ?_
 rintro e u1 ⟨rfl,r1,s1⟩
 go_wp2_with fail
 refine wp_loop_rounds 3 ?_
 rw [rounds_succ]
 go_wp2_with fail
 refine (digit_r r1 d1).mono ?_
 rintro e u2 ⟨rfl,r2,s2⟩
 have c0:=r2.c0
 have c1:=r2.c1
 have f1:=r2.free 1
 go_wp2_with fail
 go_quiet (fail)
 have r3:=((r2.drewN nq).step hk)
 rw [hsum,show k+1=k1 from HV.out.symm] at r3
 have s3:Kp [b] w ((u2.drewN nq).setCell ⟨b,1,none⟩ (.int .i64 (k1:Int))):=s1.trans (s2.trans ((Kp.drewN _ _ _).trans (Kp.setCell _ _ (by simp))))
 have R3:=hid (And.intro r3 s3)
 clear r3 s3 r1 s1 s2
 go_wp2_with fail
 rw [rounds_succ]
 go_wp2_with fail
 refine (digit_r R3.out.1 d2).mono ?_
 rintro e u4 ⟨rfl,r4,s4⟩
 clear c0 c1 f1 r2
 have c0:=r4.c0
 have c1:=r4.c1
 have S4:=hid (R3.out.2.trans s4)
 clear s4
 go_wp2_with fail
 go_quiet (fail)
 go_wp2_with fail
 refine (giveUp_r (r4.drewN _)).mono ?_
 rintro e u5 ⟨rfl,s5⟩
 go_wp2_with fail
 exact ⟨rfl,rfl,S4.out.trans ((Kp.drewN _ _ _).trans (s5.mono (by simp)))⟩
theorem upF_num (h125:saw src k 125=false) (h:NumF src k g pl):UpF src k g pl least:=by
 intro w b hr
 go_enter Tryz.func285,Tryz.ntmps285
 go_wp2_with fail
 refine (sees_r 125 hr h125).mono ?_
 rintro e u1 ⟨rfl,r1,s1⟩
 go_wp2_with fail
 refine (h u1 b r1).mono ?_
 rintro e u2 ⟨rfl,s2⟩
 go_wp2_with fail
 exact ⟨rfl,rfl,s1.trans s2⟩
theorem bndF_num (h:NumF src k g pl):BndF src k g pl:=by
 intro w b hr
 go_enter Tryz.func276,Tryz.ntmps276
 go_wp2_with fail
 refine (h w b hr).mono ?_
 rintro e u1 ⟨rfl,s1⟩
 go_wp2_with fail
 exact ⟨rfl,rfl,s1⟩
theorem bndF_shut (hn:NumOk src k k1 least) (h44:saw src k1 44=false) (h125:saw src k1 125=false):BndF src k g k1:=by
 intro w b hr
 go_enter Tryz.func276,Tryz.ntmps276
 go_wp2_with fail
 refine (number_any hr hn).mono ?_
 rintro e u1 ⟨rfl,r1,s1⟩
 go_wp2_with fail
 refine (take_no 44 r1 h44).mono ?_
 rintro e u2 ⟨rfl,r2,s2⟩
 go_wp2_with fail
 refine (expect_no 125 r2 h125).mono ?_
 rintro e u3 ⟨rfl,s3⟩
 go_wp2_with fail
 exact ⟨rfl,rfl,s1.trans (s2.trans s3)⟩
theorem bndF_up (hn:NumOk src k k1 least) (h44:saw src k1 44=true) (h:UpF src (k1+1) g pl least):BndF src k g pl:=by
 intro w b hr
 go_enter Tryz.func276,Tryz.ntmps276
 go_wp2_with fail
 refine (number_any hr hn).mono ?_
 rintro e u1 ⟨rfl,r1,s1⟩
 go_wp2_with fail
 refine (take_yes 44 r1 h44).mono ?_
 rintro e u2 ⟨rfl,r2,s2⟩
 go_wp2_with fail
 refine (h u2 b r2).mono ?_
 rintro e u3 ⟨rfl,s3⟩
 go_wp2_with fail
 exact ⟨rfl,rfl,s1.trans (s2.trans s3)⟩
theorem bndF_shut2 {most:Option Nat} (hn:NumOk src k k1 least) (h44:saw src k1 44=true) (hu:UpOk src (k1+1) l least most) (h125:saw src l 125=false):BndF src k g l:=by
 intro w b hr
 go_enter Tryz.func276,Tryz.ntmps276
 go_wp2_with fail
 refine (number_any hr hn).mono ?_
 rintro e u1 ⟨rfl,r1,s1⟩
 go_wp2_with fail
 refine (take_yes 44 r1 h44).mono ?_
 rintro e u2 ⟨rfl,r2,s2⟩
 go_wp2_with fail
 refine (upper_any r2 hu).mono ?_
 rintro e u3 ⟨rfl,r3,s3⟩
 go_wp2_with fail
 refine (expect_no 125 r3 h125).mono ?_
 rintro e u4 ⟨rfl,s4⟩
 go_wp2_with fail
 exact ⟨rfl,rfl,s1.trans (s2.trans (s3.trans s4))⟩
end
section
variable {w:World} {b k l g pl least:Nat} {src:ByteArray}
theorem Rd.goto (h:Rd w b src k g) (j:Nat) (hj:j≤src.size):Rd (w.setCell ⟨b,1,none⟩ (.int .i64 (j:Int))) b src j g:=by
 refine ⟨by simpa [World.setCell] using h.lt,hj,h.small,?_,?_,?_,?_,fun i=>by simpa using h.free i⟩
 ·rw [cell_other _ (by simp)];exact h.c0
 ·rw [cell_same _ h.c1]
 ·rw [cell_other _ (by simp)];exact h.ce
 ·rw [cell_other _ (by simp)];exact h.c2
theorem upF_less {m j:Nat} (h125:saw src k 125=false) (hn:NumOk src k l m) (hlt:m < least) (hl:l < src.size) (hd:dig src l=false) (hj:j+1=l):UpF src k g j least:=by
 intro w b hr
 have hsm:=hr.small
 have hcmp:(m:Int) < (least:Int):=by omega
 have hcmp':decide ((m:Int) < (least:Int))=true:=by simpa using hlt
 have hcmp2:decide (m < least)=true:=by simpa using hlt
 have he:((l:Int) == (src.size:Int))=false:=by simp;omega
 have hsub:(l:Int) - 1=(j:Int):=by omega
 have wj:=wrap_i64_nat j (by omega)
 have HJ:Hid (j≤src.size):=hid (by omega)
 clear hj
 go_enter Tryz.func285,Tryz.ntmps285
 go_wp2_with fail
 refine (sees_r 125 hr h125).mono ?_
 rintro e u1 ⟨rfl,r1,s1⟩
 go_wp2_with fail
 refine (number_any r1 hn).mono ?_
 rintro e u2 ⟨rfl,r2,s2⟩
 go_wp2_with fail
 refine (ended_r r2 he).mono ?_
 rintro e u3 ⟨rfl,r3,s3⟩
 go_wp2_with fail
 refine (digit_r r3 hd).mono ?_
 rintro e u4 ⟨rfl,r4,s4⟩
 have c1:=r4.c1
 have f1:=r4.free 1
 have R5:=hid (r4.goto j HJ.out)
 have s5:Kp [b] u4 (u4.setCell ⟨b,1,none⟩ (.int .i64 (j:Int))):=Kp.setCell _ _ (by simp)
 go_wp2_with fail
 refine (giveUp_r R5.out).mono ?_
 rintro e u6 ⟨rfl,s6⟩
 go_wp2_with fail
 exact ⟨rfl,rfl,s1.trans (s2.trans (s3.trans (s4.trans (s5.trans (s6.mono (by simp))))))⟩
def clSpecial:ByteArray:=⟨#[92,91,93,45]⟩
def clEscaped:ByteArray:=⟨#[92,91,93,45,94,47]⟩
end
inductive Pn where
 | one (m:Nat→Bool)
 | edge (k:Nat)
 | group (g:Nat) (x:Pn)
 | rep (x:Pn) (least:Nat) (most:Option Nat)
 | row (l:List Pn)
 | brs (l:List Pn)
mutual
def Pn.pi:Pn→Pi
 | .one m=>piOne m
 | .edge k=>piEdge k
 | .group g x=>piGroup g x.pi
 | .rep x a b=>piRep x.pi a b
 | .row l=>piRow (piL l)
 | .brs l=>piBranches (piL l)
def piL:List Pn→List Pi
 | []=>[]
 | x::l=>x.pi::piL l
end
theorem piL_len:∀ l:List Pn,(piL l).length=l.length
 | []=>rfl
 | x::l=>by simp [piL,piL_len l]
def escP (src behind:ByteArray) (k:Nat):Except Nat (Nat×Nat):=
 if saw src k 110 then .ok (k+1,10) else if saw src k 116 then .ok (k+1,9)
 else if h:k < src.size then (if Lib.indexByte behind.data.toList (src[k]'h) < 0 then .error k else .ok (k+1,(src[k]'h).toNat)) else .error k
def bytP (src barred behind:ByteArray) (k:Nat):Except Nat (Nat×Nat):=
 if saw src k 92 then escP src behind (k+1)
 else if h:k < src.size then (if saw src k 10 then .error k else if Lib.indexByte barred.data.toList (src[k]'h) < 0 then .ok (k+1,(src[k]'h).toNat) else .error k) else .error k
def begNm (t:ByteArray):Bool:=(List.range 7).any fun i=>preB (nmN i) t
def isNm (t:ByteArray):Option Nat:=(List.range 7).find? fun i=>(nmN i).toList == t.toList
def nameP (src:ByteArray) (f:Nat):Nat→Nat→Except Nat (Nat×Nat)
 | 0,k=>.error k
 | n+1,k=>if k < src.size∧begNm (src.extract f (k+1)) then
   (match isNm (src.extract f (k+1)) with
     | some i=>.ok (k+1,i)
     | none=>nameP src f n (k+1))
  else .error k
def itemP (src:ByteArray) (k:Nat) (m:Nat→Bool):Except Nat (Nat×(Nat→Bool)):=
 if saw src k 91 then
  if saw src (k+1) 58 then
   match nameP src (k+2) (src.size+1) (k+2) with
   | .error pl=>.error pl
   | .ok (l,i)=>if saw src l 58 then (if saw src (l+1) 93 then .ok (l+2,addSp m (nmS i).data.toList) else .error (l+1)) else .error l
  else .error (k+1)
 else match bytP src clSpecial clEscaped k with
  | .error pl=>.error pl
  | .ok (l,x)=>if saw src l 45 then
    (match bytP src clSpecial clEscaped (l+1) with
      | .error pl=>.error pl
      | .ok (l2,y)=>if y < x then .error (l+1) else .ok (l2,span m x (y+1)))
   else .ok (l,span m x (x+1))
def itemsP (src:ByteArray):Nat→Nat→(Nat→Bool)→Except Nat (Nat×(Nat→Bool))
 | 0,k,_=>.error k
 | n+1,k,m=>if saw src k 93 then .ok (k+1,m) else match itemP src k m with
  | .error pl=>.error pl
  | .ok (l,m1)=>itemsP src n l m1
def classP (src:ByteArray) (n k:Nat):Except Nat (Nat×(Nat→Bool)):=
 match itemP src (if saw src k 94 then k+1 else k) noBytes with
 | .error pl=>.error pl
 | .ok (l,m)=>match itemsP src n l m with
  | .error pl=>.error pl
  | .ok (l2,m2)=>.ok (l2,if saw src k 94 then fun x=>!m2 x else m2)
def dgP (src:ByteArray) (k:Nat):Nat:=if h:k < src.size then (src[k]'h).toNat - 48 else 0
def numP (src:ByteArray) (k:Nat):Except Nat (Nat×Nat):=
 if dig src k then
  if dig src (k+1) then (if 20 < 10 * dgP src k+dgP src (k+1) then .error (k+1) else .ok (k+2,10 * dgP src k+dgP src (k+1))) else .ok (k+1,dgP src k)
 else .error k
def upP (src:ByteArray) (k least:Nat):Except Nat (Nat×Option Nat):=
 if saw src k 125 then .ok (k,none) else match numP src k with
  | .error pl=>.error pl
  | .ok (l,v)=>if v < least∧l < src.size∧dig src l=false then .error (l - 1) else .ok (l,some v)
def bndP (src:ByteArray) (k:Nat):Except Nat (Nat×Nat×Option Nat):=
 match numP src k with
 | .error pl=>.error pl
 | .ok (l,a)=>if saw src l 44 then
   (match upP src (l+1) a with
     | .error pl=>.error pl
     | .ok (l2,b)=>if saw src l2 125 then .ok (l2+1,a,b) else .error l2)
  else if saw src l 125 then .ok (l+1,a,some a) else .error l
def repP (src:ByteArray) (k:Nat):Except Nat (Nat×Option (Nat×Option Nat)):=
 if saw src k 42 then .ok (k+1,some (0,none)) else if saw src k 43 then .ok (k+1,some (1,none)) else if saw src k 63 then .ok (k+1,some (0,some 1))
 else if saw src k 123 then (match bndP src (k+1) with
  | .error pl=>.error pl
  | .ok (l,a,b)=>.ok (l,some (a,b)))
 else .ok (k,none)
def Pn.times (x:Pn):Option (Nat×Option Nat)→Pn
 | none=>x
 | some (a,b)=>.rep x a b
mutual
def atomP (src:ByteArray):Nat→Nat→Nat→Except Nat (Nat×Nat×Pn)
 | 0,k,_=>.error k
 | n+1,k,g=>if saw src k 40 then
   (if g=9 then .error k else match brsP src n (k+1) (g+1) with
     | .error pl=>.error pl
     | .ok (l,g',x)=>if saw src l 41 then .ok (l+1,g',.group (g+1) x) else .error l)
  else if saw src k 46 then .ok (k+1,g,.one fun x=>!noBytes x)
  else if saw src k 91 then (match classP src src.size (k+1) with
   | .error pl=>.error pl
   | .ok (l,m)=>.ok (l,g,.one m))
  else match bytP src special escaped k with
   | .error pl=>.error pl
   | .ok (l,x)=>.ok (l,g,.one (span noBytes x (x+1)))
def pieceP (src:ByteArray):Nat→Nat→Nat→Except Nat (Nat×Nat×Pn)
 | 0,k,_=>.error k
 | n+1,k,g=>if saw src k 94 then .ok (k+1,g,.edge 1) else if saw src k 36 then .ok (k+1,g,.edge 2)
  else match atomP src n k g with
   | .error pl=>.error pl
   | .ok (l,g',x)=>match repP src l with
    | .error pl=>.error pl
    | .ok (l2,r)=>.ok (l2,g',x.times r)
def rowP (src:ByteArray):Nat→Nat→Nat→Except Nat (Nat×Nat×List Pn)
 | 0,k,_=>.error k
 | n+1,k,g=>if k < src.size∧saw src k 124=false∧saw src k 41=false then
   (match pieceP src n k g with
     | .error pl=>.error pl
     | .ok (l,g',x)=>match rowP src n l g' with
      | .error pl=>.error pl
      | .ok (l2,g2,xs)=>.ok (l2,g2,x::xs))
  else .ok (k,g,[])
def moreP (src:ByteArray):Nat→Nat→Nat→Except Nat (Nat×Nat×List Pn)
 | 0,k,_=>.error k
 | n+1,k,g=>if saw src k 124 then
   (match rowP src n (k+1) g with
     | .error pl=>.error pl
     | .ok (l,g',xs)=>match moreP src n l g' with
      | .error pl=>.error pl
      | .ok (l2,g2,ys)=>.ok (l2,g2,.row xs::ys))
  else .ok (k,g,[])
def brsP (src:ByteArray):Nat→Nat→Nat→Except Nat (Nat×Nat×Pn)
 | 0,k,_=>.error k
 | n+1,k,g=>match rowP src n k g with
  | .error pl=>.error pl
  | .ok (l,g',xs)=>match moreP src n l g' with
   | .error pl=>.error pl
   | .ok (l2,g2,ys)=>.ok (l2,g2,.brs (.row xs::ys))
end
def readP (src:ByteArray) (fr:Nat):Except (Nat×Nat) (Nat×Pn):=
 if 100+fr < src.size then .error (1,fr) else
 match brsP src (4 * (src.size - fr)+4) fr 0 with
 | .error pl=>.error (2,pl)
 | .ok (l,g,x)=>if l < src.size then .error (2,l) else if 300 < x.pi.sz then .error (3,src.size) else .ok (g,x)
