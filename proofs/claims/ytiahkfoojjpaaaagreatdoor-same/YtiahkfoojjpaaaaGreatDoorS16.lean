import Derived.Test.YtiahkfoojjpaaaaGreatDoorS15
import Derived.RegionDies
set_option maxRecDepth 100000
set_option maxHeartbeats 16000000
set_option linter.all false
namespace Go.Proofs.YtiahkfoojjpaaaaGreatDoor
open Go.RowKit
abbrev Flt(E k:Nat):Ending:=.panicked [{ v:=.iface 118 (.agg #[.int .i64 (E:Int),.int .i64 (k:Int)]),recovered:=false}]
def fO(f:FuncId)(src:ByteArray)(k g pl:Nat):Prop:=∀(w:World) (b:Nat),b≠4->Rd w b src k g->Nm w->Calls Tryz.prog f #[.pointer (some ⟨b,0,none⟩)] w fun e w'=>e=Flt 2 pl/\Kp [b] w w'
section
variable {w:World}{b k g pl:Nat}{src:ByteArray}
theorem dR(hr:Rd w b src k g):Calls Tryz.prog 131 #[.pointer (some ⟨b,0,none⟩)] w fun e w'=>e=Flt 2 k/\Kp [] w w':=by
 have c1:=hr.c1;have ce:=hr.ce;go_enter Tryz.func131,Tryz.ntmps131
 go_wp2_with fail;go_region_dies
 all_goals exact⟨rfl,rfl,Kp.drew [] w⟩
theorem gA(x:Int)(hr:Rd w b src k g)(h:saw src k x=false):Calls Tryz.prog 143 #[.pointer (some ⟨b,0,none⟩),.int .u8 x] w fun e w'=>e=Flt 2 k/\Kp [b] w w':=by
 go_enter Tryz.func143,Tryz.ntmps143
 go_wp2_with fail;refine(aF x hr h).mono ?_;rintro e w1 ⟨rfl,r1,k1⟩;go_wp2_with fail;refine(dR r1).mono ?_;rintro e w2 ⟨rfl,k2⟩;go_wp2_with fail;exact⟨rfl,rfl,k1.trans (k2.mono (by simp))⟩
theorem Eo(h:fO 130 src k g pl):fO 87 src k g pl:=by
 intro w b hb0 hr hw;go_enter Tryz.func87,Tryz.ntmps87
 go_wp2_with fail;refine(h w b hb0 hr hw).mono ?_;rintro e w1 ⟨rfl,k1⟩;go_wp2_with fail;exact⟨rfl,rfl,k1⟩
theorem En{l g':Nat}{p:Pi}(h:ij src k l g g' p)(hl:l<src.size):fO 87 src k g l:=by
 intro w b hb0 hr hw;have he2:((l:Int)==(src.size:Int))=false:=by rw[Qz];omega
 go_enter Tryz.func87,Tryz.ntmps87
 go_wp2_with fail;refine(h w b hb0 hr hw).mono ?_;rintro e w1 ⟨i,rfl,htv,hpi,nd,r1,k1⟩;clear nd htv hpi;go_wp2_with fail;refine(gB r1 he2).mono ?_;rintro e w2 ⟨rfl,r2,k2⟩;go_wp2_with fail;refine(dR r2).mono ?_;rintro e w3 ⟨rfl,k3⟩;go_wp2_with fail;exact⟨rfl,rfl,k1.trans (k2.trans (k3.mono (by simp)))⟩
theorem Fk(h94:saw src k 94=false)(h36:saw src k 36=false)(h:fO 183 src k g pl):fO 171 src k g pl:=by
 intro w b hb0 hr hw;have HB:Hid (4∉[b]):=hid (by simpa using Ne.symm hb0);go_enter Tryz.func171,Tryz.ntmps171
 go_wp2_with fail;refine(aF 94 hr h94).mono ?_;rintro e w1 ⟨rfl,r1,k1'⟩;go_wp2_with fail;refine(aF 36 r1 h36).mono ?_;rintro e w2 ⟨rfl,r2,k2⟩;go_wp2_with fail;refine(h w2 b hb0 r2 ((hw.aj k1' HB.out).aj k2 HB.out)).mono ?_;rintro e w3 ⟨rfl,k3⟩;go_wp2_with fail;exact⟨rfl,rfl,k1'.trans (k2.trans k3)⟩
def RepF(src:ByteArray)(k g pl:Nat):Prop:=∀(w:World) (b:Nat) (v:It),Rd w b src k g->Calls Tryz.prog 182 #[.pointer (some ⟨b,0,none⟩),v.v] w fun e w'=>e=Flt 2 pl/\Kp [b] w w'
theorem I2{k1 g':Nat}{p:Pi}(h94:saw src k 94=false)(h36:saw src k 36=false)(ha:Cy src k k1 g g' p)(hf:RepF src k1 g' pl):fO 171 src k g pl:=by
 intro w b hb0 hr hw;have HB:Hid (4∉[b]):=hid (by simpa using Ne.symm hb0);go_enter Tryz.func171,Tryz.ntmps171
 go_wp2_with fail;refine(aF 94 hr h94).mono ?_;rintro e w1 ⟨rfl,r1,k1'⟩;go_wp2_with fail;refine(aF 36 r1 h36).mono ?_;rintro e w2 ⟨rfl,r2,k2⟩;go_wp2_with fail;refine(ha w2 b hb0 r2 ((hw.aj k1' HB.out).aj k2 HB.out)).mono ?_;rintro e w3 ⟨i,rfl,hi,nd,r3,k3⟩;have C:=hid (hf w3 b i r3);clear nd r3 hi;go_wp2_with fail;refine C.out.mono ?_;rintro e w4 ⟨rfl,k4⟩;go_wp2_with fail;exact⟨rfl,rfl,k1'.trans (k2.trans (k3.trans k4))⟩
def RowF(src:ByteArray)(pl:Nat):Nat->Nat->List Pi->Prop
 | k,g,[]=>k<src.size/\saw src k 124=false/\saw src k 41=false/\fO 171 src k g pl
 | k,g,p::ps=>k<src.size/\saw src k 124=false/\saw src k 41=false/\∃k1 g1,k<k1/\tR src k k1 g g1 p/\RowF src pl k1 g1 ps
def BrsF(src:ByteArray)(pl:Nat):Nat->Nat->List Pi->Prop
 | k,g,[]=>saw src k 124=true/\fO 160 src (k+1) g pl
 | k,g,p::ps=>saw src k 124=true/\∃k1 g1,k<k1/\jK src (k+1) k1 g g1 p/\BrsF src pl k1 g1 ps
end
theorem qM{src:ByteArray}{k g pl:Nat}{ps:List Pi}(hp:RowF src pl k g ps)(hlen:ps.length<=200):fO 160 src k g pl:=by
 intro w b hb0 hr hw;have HB:Hid (4∉[b]):=hid (by simpa using Ne.symm hb0);have hbl:=hr.lt;obtain⟨i0,hi,hz0,hz1,hz2⟩:=info_parts Tryz.oQ;have HI:=hid (And.intro hi (And.intro hz0 (And.intro hz1 hz2)));clear hi hz0 hz1 hz2;have HP:=hid hp;have HR:=hid hr;clear hp hr;go_enter Tryz.func160,Tryz.ntmps160
 go_wp2_with fail;go_loopw [3] (fun v wr=>∃(k' g1:Nat) (done:List It) (rest:List Pi),ps=done.map It.pi++rest/\wr.ownsRow w.heap.size 139 1 v done.length (done.map It.v)/\(∀i∈done,Item w.heap.size wr v i)/\Rd wr b src k' g1/\Kp [b] w wr/\RowF src pl k' g1 rest) (fun _ wr=>3000-Qj wr b)
 case atStart=>exact⟨k,g,[],ps,rfl,World.ownsRow_nil _ _ _ _,fun i hi=>(by cases hi),HR.out,Kp.refl _ _,HP.out⟩
 case round=>
  obtain⟨k',g1,done,rest,hvs,own,nds,rd,kp,rok⟩:=hrel;have OWN:=hid (And.intro own nds);have hsm:=rd.small
  cases rest with
  | nil=>
   obtain⟨hk,h124,h41,pf⟩:=rok;have he1:((k':Int)==(src.size:Int))=false:=by simp;omega
   have HV:=hid pf;clear hvs pf own nds HR HP;go_wp2_with fail;refine(gB rd he1).mono ?_;rintro e w1 ⟨rfl,r1,k1⟩;go_wp2_with fail;refine(eV 124 r1 h124).mono ?_;rintro e w2 ⟨rfl,r2,k2⟩;go_wp2_with fail;refine(eV 41 r2 h41).mono ?_;rintro e w3 ⟨rfl,r3,k3⟩;have k3':Kp [b] wr w3:=k1.trans (k2.trans k3);have hw3:=hw.aj (kp.trans k3') HB.out;clear r1 r2;go_wp2_with fail;refine(HV.out w3 b hb0 r3 hw3).mono ?_;rintro e w4 ⟨rfl,k4⟩;go_wp2_with fail;exact⟨rfl,rfl,kp.trans (k3'.trans k4)⟩
  | cons p rest=>
   obtain⟨hk,h124,h41,k1',g1',hkl,pok,rok'⟩:=rok;have he1:((k':Int)==(src.size:Int))=false:=by simp;omega
   have HV:=hid (And.intro hvs (And.intro pok rok'));have hdl:done.length<=1000:=by
    rw[hvs,Qy,Q7] at hlen;omega
   clear hvs pok rok' own nds HR HP;go_wp2_with fail;refine(gB rd he1).mono ?_;rintro e w1 ⟨rfl,r1,k1⟩;go_wp2_with fail;refine(eV 124 r1 h124).mono ?_;rintro e w2 ⟨rfl,r2,k2⟩;go_wp2_with fail;refine(eV 41 r2 h41).mono ?_;rintro e w3 ⟨rfl,r3,k3⟩;have k3':Kp [b] wr w3:=k1.trans (k2.trans k3);have hw3:=hw.aj (kp.trans k3') HB.out;clear r1 r2;go_wp2_with fail;refine(HV.out.2.1 w3 b hb0 r3 hw3).mono ?_;rintro e w4 ⟨i,rfl,hpi,nd4,r4,k4⟩;have kw4:Kp [b] w w4:=kp.trans (k3'.trans k4);have O4:=hid (dh OWN.out.1 (k3'.trans k4) (fun x hx=>by rw[List.mem_singleton.1 hx];exact hbl));have hz4:=kw4.size;have N4:=hid (And.intro nd4 (And.intro hpi (And.intro (kp.trans k3').size k3'.size)));have K34:=hid (k3'.trans k4);clear r3 hw3 nd4 hpi;obtain⟨tv,htv⟩:∃tv,i.tv=tv:=⟨_,rfl⟩;obtain⟨xv,hxv⟩:∃xv,i.xv=xv:=⟨_,rfl⟩;have hiv:i.v=.iface tv xv:=by unfold It.v;rw[htv,hxv]
   rw[hiv];have HIV:=hid hiv;clear hiv htv hxv;obtain⟨dl,hdl'⟩:∃dl,done.length=dl:=⟨_,rfl⟩;have ow4:=O4.out;rw[hdl'] at ow4 hdl;have O4':=hid ow4;have HDL:=hid hdl';clear ow4 hdl';go_wp2_with (at_builtin;refine fE rfl _ _ 218 rfl w.heap.size 139 i0 .nilIface 1 16 Tryz.underlying218 HI.out.1 HI.out.2.1 HI.out.2.2.1 HI.out.2.2.2 rfl (by decide) _ dl _ rfl (O4'.out.alloc _) ⟨w4.heap.size,0,none⟩ 1 1 [.iface tv xv] rfl rfl ?c1 ?c2 ?c3 ?c4 ?c5 (by decide) ?_)
   case c1=>exact cell_one_new _ _ _
   case c2=>intro u hu;simp at hu;subst hu;rfl
   case c3=>unfold maxLen;omega
   case c4=>omega
   case c5=>simp;omega
   intro gg cc w5 hown hgrow hor;have IT:=hid (oJ hbl OWN.out.2 OWN.out.1 K34.out N4.out.1 N4.out.2.2.1 N4.out.2.2.2 hgrow hor (n:=dl+1) (cc:=cc));have kg:=dX hgrow;have hge:∀x,x∈(Value.ownBlock _).toList->w.heap.size<=x:=fun x hx=>(O4.out.lt x (by simpa using hx)).1;have kw5:Kp [b] w w5:=⟨kg.os.trans kw4.os,kg.tape.trans kw4.tape,kg.output.trans kw4.output,QC kw4.size (QC (by simp) kg.size),fun q hq hn=>(kg.block q (by simp;omega) (fun e=>by have:=hge q e;omega)).trans (((Kp.alloc [] w4 _).block q (by omega) (by simp)).trans (kw4.block q hq hn))⟩;have r5:=(r4.aj (Kp.alloc [] w4 (.cells #[.iface tv xv] 139)) (by simp)).aj kg (fun e=>by have:=hge b e;omega);have HD:=hid (And.intro hown (And.intro kw5 r5));have hat1:=fU rd;have hat2:=fU r5;have hls:=r5.le;clear hown hgrow kw5 r5 kg hge hor;go_wp2_with fail;refine⟨⟨k1',g1',done++[i],rest,?_,?_,IT.out,HD.out.2.2,HD.out.2.1,HV.out.2.2⟩,?_⟩
   .rw[HV.out.1,Q6,Q9,N4.out.2.1,QJ];rfl
   .have:=HD.out.1;rw[Qy,QP,HDL.out,Q6,Q9,HIV.out];exact this
   .rw[hat1,hat2];omega
theorem xy{src:ByteArray}{k k0 g g0 pl:Nat}{p0:Pi}{ps:List Pi}(h0:jK src k k0 g g0 p0)(hp:BrsF src pl k0 g0 ps)(hlen:ps.length<=100):fO 130 src k g pl:=by
 intro w b hb0 hr hw;have HB:Hid (4∉[b]):=hid (by simpa using Ne.symm hb0);have hbl:=hr.lt;obtain⟨i0,hi,hz0,hz1,hz2⟩:=info_parts Tryz.oQ;have HI:=hid (And.intro hi (And.intro hz0 (And.intro hz1 hz2)));clear hi hz0 hz1 hz2;have HP:=hid hp;have C0:=hid (h0 w b hb0 hr hw);clear hp hr h0;go_enter Tryz.func130,Tryz.ntmps130
 go_wp2_with fail;refine C0.out.mono ?_;rintro e w1 ⟨i,rfl,hpi,nd1,r1,k1⟩;have hz1:=k1.size;obtain⟨tv,htv⟩:∃tv,i.tv=tv:=⟨_,rfl⟩;obtain⟨xv,hxv⟩:∃xv,i.xv=xv:=⟨_,rfl⟩;have hiv:i.v=.iface tv xv:=by unfold It.v;rw[htv,hxv]
 rw[hiv];have N1:=hid (And.intro nd1 (And.intro hpi hiv));clear hiv htv hxv nd1 hpi C0;go_wp2_with fail;obtain⟨o,ho⟩:∃o:Obj,o=.cells #[.iface tv xv] 139:=⟨_,rfl⟩;have k2:=Kp.alloc [] w1 o;have r2:=r1.aj k2 (by simp);have ow2:(w1.alloc o).ownsRow w.heap.size 139 1 (.slice (some ⟨w1.heap.size,0,none⟩) 1 1) 1 [.iface tv xv]:=by
  refine⟨rfl,.inr ⟨w1.heap.size,1,#[.iface tv xv],rfl,hz1,?_,QD _,by unfold maxLen;omega,rfl,rfl⟩⟩;rw[ho];exact World.alloc_heap_new w1 _
 have it2:Item w.heap.size (w1.alloc o) (.slice (some ⟨w1.heap.size,0,none⟩) 1 1) i:=by
  refine⟨w.heap.size,w1.heap.size,QD _,by simp,fun g e=>?_,N1.out.1.aj fun q _ q2=>k2.block q q2 (by simp)⟩;have e:w1.heap.size=g:=by simpa[Value.ownBlock] using e
  rintro⟨_,q⟩;omega
 have K2:Kp [b] w (w1.alloc o):=k1.trans (k2.mono (by simp));rw[<-ho];have H2:=hid (And.intro ow2 (And.intro it2 (And.intro r2 K2)));generalize w1.alloc o=W2 at *;clear ow2 it2 r2 K2 k2 r1 k1 ho;generalize w1.heap.size=q0 at *;go_loopw [3] (fun v wr=>∃(k' g1:Nat) (done:List It) (rest:List Pi),p0::ps=done.map It.pi++rest/\0<done.length/\wr.ownsRow w.heap.size 139 1 v done.length (done.map It.v)/\(∀i∈done,Item w.heap.size wr v i)/\Rd wr b src k' g1/\Kp [b] w wr/\BrsF src pl k' g1 rest) (fun _ wr=>3000-Qj wr b)
 case atStart=>
  obtain⟨a1,a2,a3,a4⟩:=H2.out;refine⟨k0,g0,[i],ps,by rw[Q9,N1.out.2.1];rfl,by simp,?_,fun j hj=>by rw[List.mem_singleton.1 hj];exact a2,a3,a4,HP.out⟩;rw[QP,Q9,N1.out.2.2];exact a1
 case round=>
  obtain⟨k',g1,done,rest,hvs,hdn,own,nds,rd,kp,rok⟩:=hrel;have OWN:=hid (And.intro own nds);have hsm:=rd.small;have hdl:done.length<=101:=by
   have:=congrArg List.length hvs;simp at this;omega
  cases rest with
  | nil=>
   obtain⟨h124,pf⟩:=rok;have HV:=hid pf;clear hvs pf own nds H2 HP;go_wp2_with fail;refine(aK 124 rd h124).mono ?_;rintro e w3 ⟨rfl,r3,k3'⟩;have hw3:=hw.aj (kp.trans k3') HB.out;go_wp2_with fail;refine(HV.out w3 b hb0 r3 hw3).mono ?_;rintro e w4 ⟨rfl,k4⟩;go_wp2_with fail;exact⟨rfl,rfl,kp.trans (k3'.trans k4)⟩
  | cons p rest=>
   obtain⟨h124,k1',g1',hkl,pok,rok'⟩:=rok;have HV:=hid (And.intro hvs (And.intro pok rok'));clear hvs pok rok' own nds H2 HP;go_wp2_with fail;refine(aK 124 rd h124).mono ?_;rintro e w3 ⟨rfl,r3,k3'⟩;have hw3:=hw.aj (kp.trans k3') HB.out;go_wp2_with fail;refine(HV.out.2.1 w3 b hb0 r3 hw3).mono ?_;rintro e w4 ⟨i4,rfl,hpi4,nd4,r4,k4⟩;have kw4:Kp [b] w w4:=kp.trans (k3'.trans k4);have O4:=hid (dh OWN.out.1 (k3'.trans k4) (fun x hx=>by rw[List.mem_singleton.1 hx];exact hbl));have hz4:=kw4.size;have N4:=hid (And.intro nd4 (And.intro hpi4 (And.intro (kp.trans k3').size k3'.size)));have K34:=hid (k3'.trans k4);clear r3 hw3 nd4 hpi4;obtain⟨tv4,htv⟩:∃tv,i4.tv=tv:=⟨_,rfl⟩;obtain⟨xv4,hxv⟩:∃xv,i4.xv=xv:=⟨_,rfl⟩;have hiv:i4.v=.iface tv4 xv4:=by unfold It.v;rw[htv,hxv]
   rw[hiv];have HIV:=hid hiv;clear hiv htv hxv;obtain⟨dl,hdl'⟩:∃dl,done.length=dl:=⟨_,rfl⟩;have ow4:=O4.out;rw[hdl'] at ow4 hdl;have O4':=hid ow4;have HDL:=hid hdl';clear ow4 hdl';go_wp2_with (at_builtin;refine fE rfl _ _ 206 rfl w.heap.size 139 i0 .nilIface 1 16 Tryz.underlying206 HI.out.1 HI.out.2.1 HI.out.2.2.1 HI.out.2.2.2 rfl (by decide) _ dl _ rfl (O4'.out.alloc _) ⟨w4.heap.size,0,none⟩ 1 1 [.iface tv4 xv4] rfl rfl ?c1 ?c2 ?c3 ?c4 ?c5 (by decide) ?_)
   case c1=>exact cell_one_new _ _ _
   case c2=>intro u hu;simp at hu;subst hu;rfl
   case c3=>unfold maxLen;omega
   case c4=>omega
   case c5=>simp;omega
   intro gg cc w5 hown hgrow hor;have IT:=hid (oJ hbl OWN.out.2 OWN.out.1 K34.out N4.out.1 N4.out.2.2.1 N4.out.2.2.2 hgrow hor (n:=dl+1) (cc:=cc));have kg:=dX hgrow;have hge:∀x,x∈(Value.ownBlock _).toList->w.heap.size<=x:=fun x hx=>(O4.out.lt x (by simpa using hx)).1;have kw5:Kp [b] w w5:=⟨kg.os.trans kw4.os,kg.tape.trans kw4.tape,kg.output.trans kw4.output,QC kw4.size (QC (by simp) kg.size),fun q hq hn=>(kg.block q (by simp;omega) (fun e=>by have:=hge q e;omega)).trans (((Kp.alloc [] w4 _).block q (by omega) (by simp)).trans (kw4.block q hq hn))⟩;have r5:=(r4.aj (Kp.alloc [] w4 (.cells #[.iface tv4 xv4] 139)) (by simp)).aj kg (fun e=>by have:=hge b e;omega);have HD:=hid (And.intro hown (And.intro kw5 r5));have hat1:=fU rd;have hat2:=fU r5;have hls:=r5.le;clear hown hgrow kw5 r5 kg hge hor;go_wp2_with fail;refine⟨⟨k1',g1',done++[i4],rest,?_,by simp,?_,IT.out,HD.out.2.2,HD.out.2.1,HV.out.2.2⟩,?_⟩
   .rw[HV.out.1,Q6,Q9,N4.out.2.1,QJ];rfl
   .have:=HD.out.1;rw[Qy,QP,HDL.out,Q6,Q9,HIV.out];exact this
   .rw[hat1,hat2];omega
theorem qK{src:ByteArray}{k g pl:Nat}(h0:fO 160 src k g pl):fO 130 src k g pl:=by
 intro w b hb0 hr hw;go_enter Tryz.func130,Tryz.ntmps130
 go_wp2_with fail;refine(h0 w b hb0 hr hw).mono ?_;rintro e w1 ⟨rfl,k1⟩;go_wp2_with fail;exact⟨rfl,rfl,k1⟩
section
variable {w:World}{b k g pl:Nat}{src barred behind:ByteArray}
def Hb(src barred behind:ByteArray)(k g pl:Nat):Prop:=∀(w:World) (b:Nat),Rd w b src k g->Calls Tryz.prog 196 #[.pointer (some ⟨b,0,none⟩),.string barred,.string behind] w fun e w'=>e=Flt 2 pl/\Kp [b] w w'
theorem pN{x:Int}(hk:k=src.size):saw src k x=false:=by
 unfold saw;rw[dif_neg (by omega)]
theorem jk(hr:Rd w b src k g){v:Bool}(h:((k:Int)==(src.size:Int))=v)(n:Nat):Calls Tryz.prog 104 #[.pointer (some ⟨b,0,none⟩)] (w.drewN n) fun e w''=>e=.returned (.bool v)/\∃m,w''=w.drewN m:=by
 have:=iA hr n
 rwa [h] at this
theorem La(hk:k=src.size):Hb src barred behind k g k:=by
 intro w b hr;have he:((k:Int)==(src.size:Int))=true:=by rw[hk];simp
 go_enter Tryz.func196,Tryz.ntmps196
 go_wp2_with (go_at_call 149;refine(aF 92 hr (pN hk)).mono ?_;rintro e w1 ⟨rfl,h1,h2⟩)
 have HK:=hid hk;clear hk;go_quiet ((go_at_call 104;exact jk h1 he _));go_wp2_with fail;refine(dR (h1.drewN _)).mono ?_;rintro e w2 ⟨rfl,k2⟩;go_wp2_with fail;exact⟨rfl,rfl,h2.trans ((Kp.drewN _ _ _).trans (k2.mono (by simp)))⟩
theorem OX(hk:k<src.size)(h92:saw src k 92=false)(h10:saw src k 10=true):Hb src barred behind k g k:=by
 intro w b hr;have he:((k:Int)==(src.size:Int))=false:=by simp;omega
 go_enter Tryz.func196,Tryz.ntmps196
 go_wp2_with (go_at_call 149;refine(aF 92 hr h92).mono ?_;rintro e w1 ⟨rfl,h1,h2⟩)
 go_quiet (first|(go_at_call 104;exact jk h1 he _)|(go_at_call 137;exact Iq 10 h1 h10 _));go_wp2_with fail;refine(dR (h1.drewN _)).mono ?_;rintro e w2 ⟨rfl,k2⟩;go_wp2_with fail;exact⟨rfl,rfl,h2.trans ((Kp.drewN _ _ _).trans (k2.mono (by simp)))⟩
theorem Lb{v:Int}(hk:k<src.size)(h92:saw src k 92=false)(h10:saw src k 10=false)(hbar:Lib.indexByte barred.data.toList src[k]=v)(hv:0<=v):Hb src barred behind k g k:=by
 intro w b hr;go_enter Tryz.func196,Tryz.ntmps196
 go_wp2_with (go_at_call 149;refine(aF 92 hr h92).mono ?_;rintro e w1 ⟨rfl,h1,h2⟩)
 have c0:=h1.c0;have c1:=h1.c1;have hsm:=h1.small;have he:((k:Int)==(src.size:Int))=false:=by simp;omega
 have hix:Lib.indexByte barred.data.toList ((src[k].toNat:Int)).toNat.toUInt8=v:=by simpa using hbar
 go_quiet (first|(go_at_call 104;exact iA h1 _)|(go_at_call 137;exact Iq 10 h1 h10 _)|(go_at_call 162;exact nH _ _ hix _ _));go_wp2_with fail;refine(dR (h1.drewN _)).mono ?_;rintro e w2 ⟨rfl,k2⟩;go_wp2_with fail;exact⟨rfl,rfl,h2.trans ((Kp.drewN _ _ _).trans (k2.mono (by simp)))⟩
def EscF(src behind:ByteArray)(k g pl:Nat):Prop:=∀(w:World) (b:Nat),Rd w b src k g->Calls Tryz.prog 203 #[.pointer (some ⟨b,0,none⟩),.string behind] w fun e w'=>e=Flt 2 pl/\Kp [b] w w'
theorem Ov(hk:k=src.size):EscF src behind k g k:=by
 intro w b hr;have he:((k:Int)==(src.size:Int))=true:=by rw[hk];simp
 go_enter Tryz.func203,Tryz.ntmps203
 go_wp2_with fail;refine(aF 110 hr (pN hk)).mono ?_;rintro e w1 ⟨rfl,r1,k1⟩;go_wp2_with fail;refine(aF 116 r1 (pN hk)).mono ?_;rintro e w2 ⟨rfl,r2,k2⟩;have HK:=hid hk;clear hk;go_wp2_with fail;go_quiet ((go_at_call 104;exact jk r2 he _));go_wp2_with fail;refine(dR (r2.drewN _)).mono ?_;rintro e w3 ⟨rfl,k3⟩;go_wp2_with fail;exact⟨rfl,rfl,k1.trans (k2.trans ((Kp.drewN _ _ _).trans (k3.mono (by simp))))⟩
theorem escF_c{v:Int}(hk:k<src.size)(h1:saw src k 110=false)(h2:saw src k 116=false)(hix:Lib.indexByte behind.data.toList src[k]=v)(hv:v<0):EscF src behind k g k:=by
 intro w b hr;go_enter Tryz.func203,Tryz.ntmps203
 go_wp2_with fail;refine(aF 110 hr h1).mono ?_;rintro e w1 ⟨rfl,r1,k1⟩;go_wp2_with fail;refine(aF 116 r1 h2).mono ?_;rintro e w2 ⟨rfl,r2,k2⟩;have c0:=r2.c0;have c1:=r2.c1;have hsm:=r2.small;have he:((k:Int)==(src.size:Int))=false:=by simp;omega
 have hix':Lib.indexByte behind.data.toList ((src[k].toNat:Int)).toNat.toUInt8=v:=by simpa using hix
 go_wp2_with fail;go_quiet (first|(go_at_call 104;exact iA r2 _)|(go_at_call 162;exact nH _ _ hix' _ _));go_wp2_with fail;refine(dR (r2.drewN _)).mono ?_;rintro e w3 ⟨rfl,k3⟩;go_wp2_with fail;exact⟨rfl,rfl,k1.trans (k2.trans ((Kp.drewN _ _ _).trans (k3.mono (by simp))))⟩
theorem zX(h92:saw src k 92=true)(h:EscF src behind (k+1) g pl):Hb src barred behind k g pl:=by
 intro w b hr;go_enter Tryz.func196,Tryz.ntmps196
 go_wp2_with fail;refine(aK 92 hr h92).mono ?_;rintro e w1 ⟨rfl,r1,k1⟩;go_wp2_with fail;refine(h w1 b r1).mono ?_;rintro e w2 ⟨rfl,k2⟩;go_wp2_with fail;exact⟨rfl,rfl,k1.trans k2⟩
theorem GZ(h40:saw src k 40=false)(h46:saw src k 46=false)(h91:saw src k 91=false)(h:Hb src iM iX k g pl):fO 183 src k g pl:=by
 intro w b _ hr _;go_enter Tryz.func183,Tryz.ntmps183
 go_wp2_with fail;refine(eV 40 hr h40).mono ?_;rintro e w1 ⟨rfl,r1,k1⟩;go_wp2_with fail;refine(aF 46 r1 h46).mono ?_;rintro e w2 ⟨rfl,r2,k2⟩;go_wp2_with fail;refine(aF 91 r2 h91).mono ?_;rintro e w3 ⟨rfl,r3,k3⟩;have C:=hid (h w3 b r3);unfold iM iX at C;go_wp2_with fail;refine C.out.mono ?_;rintro e w4 ⟨rfl,k4⟩;go_wp2_with fail;exact⟨rfl,rfl,k1.trans (k2.trans (k3.trans k4))⟩
theorem Cg(h40:saw src k 40=false)(h46:saw src k 46=false)(h91:saw src k 91=true)(h:fO 195 src (k+1) g pl):fO 183 src k g pl:=by
 intro w b hb0 hr hw;have HB:Hid (4∉[b]):=hid (by simpa using Ne.symm hb0);go_enter Tryz.func183,Tryz.ntmps183
 go_wp2_with fail;refine(eV 40 hr h40).mono ?_;rintro e w1 ⟨rfl,r1,k1⟩;go_wp2_with fail;refine(aF 46 r1 h46).mono ?_;rintro e w2 ⟨rfl,r2,k2⟩;go_wp2_with fail;refine(aK 91 r2 h91).mono ?_;rintro e w3 ⟨rfl,r3,k3⟩;have C:=hid (h w3 b hb0 r3 (((hw.aj k1 HB.out).aj k2 HB.out).aj k3 HB.out));go_wp2_with fail;refine C.out.mono ?_;rintro e w4 ⟨rfl,k4⟩;go_wp2_with fail;exact⟨rfl,rfl,k1.trans (k2.trans (k3.trans k4))⟩
theorem jH(h40:saw src k 40=true)(h:fO 193 src k g pl):fO 183 src k g pl:=by
 intro w b hb0 hr hw;have HB:Hid (4∉[b]):=hid (by simpa using Ne.symm hb0);go_enter Tryz.func183,Tryz.ntmps183
 go_wp2_with fail;refine(eV 40 hr h40).mono ?_;rintro e w1 ⟨rfl,r1,k1⟩;go_wp2_with fail;refine(h w1 b hb0 r1 (hw.aj k1 HB.out)).mono ?_;rintro e w2 ⟨rfl,k2⟩;go_wp2_with fail;exact⟨rfl,rfl,k1.trans k2⟩
theorem Bz:fO 193 src k 9 k:=by
 intro w b _ hr _;have c2:=hr.c2;go_enter Tryz.func193,Tryz.ntmps193
 go_wp2_with fail;refine(dR hr).mono ?_;rintro e w2 ⟨rfl,k2⟩;go_wp2_with fail;exact⟨rfl,rfl,k2.mono (by simp)⟩
theorem JX(hg:g<9)(h40:saw src k 40=true)(hb:fO 130 src (k+1) (g+1) pl):fO 193 src k g pl:=by
 intro w b hb0 hr hw;have HB:Hid (4∉[b]):=hid (by simpa using Ne.symm hb0);have c2:=hr.c2;have f3:=hr.free 3;obtain⟨g1,hg1⟩:∃g1:Nat,g1=g+1:=⟨_,rfl⟩;have hsum:(g:Int)+1=(g1:Int):=by omega
 have wg:=aa g1 (by omega);have hne:((g:Int)==9)=false:=by rw[Qz];omega
 have r0:=hr.group g1;have k0:Kp [b] w (w.setCell ⟨b,3,none⟩ (.int .i64 (g1:Int))):=Kp.setCell (S:=[b]) w (p:=⟨b,3,none⟩) (.int .i64 (g1:Int)) (by simp);have hw0:=hw.aj k0 HB.out;rw[<-hg1] at hb;have HBR:=hid hb;have R0:=hid (And.intro r0 (And.intro hw0 k0));have c3:=r0.c2;clear hg1 hb r0 hw0 hr hw k0;go_enter Tryz.func193,Tryz.ntmps193
 go_wp2_with fail;refine(dY 40 R0.out.1 h40).mono ?_;rintro e w1 ⟨rfl,r1,k1⟩;go_wp2_with fail;refine(HBR.out w1 b hb0 r1 (R0.out.2.1.aj k1 HB.out)).mono ?_;rintro e w2 ⟨rfl,k2⟩;go_wp2_with fail;exact⟨rfl,rfl,R0.out.2.2.trans (k1.trans k2)⟩
theorem Bx{l g':Nat}{p:Pi}(hg:g<9)(h40:saw src k 40=true)(hb:ij src (k+1) l (g+1) g' p)(h41:saw src l 41=false):fO 193 src k g l:=by
 intro w b hb0 hr hw;have HB:Hid (4∉[b]):=hid (by simpa using Ne.symm hb0);have c2:=hr.c2;have f3:=hr.free 3;obtain⟨g1,hg1⟩:∃g1:Nat,g1=g+1:=⟨_,rfl⟩;have hsum:(g:Int)+1=(g1:Int):=by omega
 have wg:=aa g1 (by omega);have hne:((g:Int)==9)=false:=by rw[Qz];omega
 have r0:=hr.group g1;have k0:Kp [b] w (w.setCell ⟨b,3,none⟩ (.int .i64 (g1:Int))):=Kp.setCell (S:=[b]) w (p:=⟨b,3,none⟩) (.int .i64 (g1:Int)) (by simp);have hw0:=hw.aj k0 HB.out;rw[<-hg1] at hb;have HBR:=hid hb;have R0:=hid (And.intro r0 (And.intro hw0 k0));have c3:=r0.c2;clear hg1 hb r0 hw0 hr hw k0;go_enter Tryz.func193,Tryz.ntmps193
 go_wp2_with fail;refine(dY 40 R0.out.1 h40).mono ?_;rintro e w1 ⟨rfl,r1,k1⟩;go_wp2_with fail;refine(HBR.out w1 b hb0 r1 (R0.out.2.1.aj k1 HB.out)).mono ?_;rintro e w2 ⟨i,rfl,_,hpi,nd2,r2,k2⟩;clear nd2 hpi c2 c3 f3;go_wp2_with fail;refine(gA 41 r2 h41).mono ?_;rintro e w3 ⟨rfl,k3⟩;go_wp2_with fail;exact⟨rfl,rfl,R0.out.2.2.trans (k1.trans (k2.trans k3))⟩
theorem Fa(h1:saw src k 42=false)(h2:saw src k 43=false)(h3:saw src k 63=false)(h4:saw src k 123=true)(h:∀(w:World) (b:Nat),Rd w b src (k+1) g->Calls Tryz.prog 192 #[.pointer (some ⟨b,0,none⟩)] w fun e w'=>e=Flt 2 pl/\Kp [b] w w'):RepF src k g pl:=by
 intro w b i hr;show Calls Tryz.prog 182 #[.pointer (some ⟨b,0,none⟩),.iface i.tv i.xv] w _;have HH:=hid h;clear h;go_enter Tryz.func182,Tryz.ntmps182
 go_wp2_with fail;refine(aF 42 hr h1).mono ?_;rintro e w1 ⟨rfl,r1,k1⟩;go_wp2_with fail;refine(aF 43 r1 h2).mono ?_;rintro e w2 ⟨rfl,r2,k2⟩;go_wp2_with fail;refine(aF 63 r2 h3).mono ?_;rintro e w3 ⟨rfl,r3,k3⟩;go_wp2_with fail;refine(aK 123 r3 h4).mono ?_;rintro e w4 ⟨rfl,r4,k4⟩;go_wp2_with fail;refine(HH.out w4 b r4).mono ?_;rintro e w5 ⟨rfl,k5⟩;go_wp2_with fail;exact⟨rfl,rfl,k1.trans (k2.trans (k3.trans (k4.trans k5)))⟩
end
