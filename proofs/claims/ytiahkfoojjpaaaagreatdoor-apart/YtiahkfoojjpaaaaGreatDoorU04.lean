import Derived.Test.YtiahkfoojjpaaaaGreatDoorU02
import Derived.Test.YtiahkfoojjpaaaaGreatDoorU03
import Derived.Deep.RegionHeld3
import Derived.StillTail
import Derived.Great.BuildSlice
set_option maxRecDepth 100000
set_option maxHeartbeats 16000000
set_option linter.all false
namespace Go.Proofs.YtiahkfoojjpaaaaGreatDoor
open Go.RowKit
inductive Adr
 | num (x:Nat)
 | last
 | pat (Q:Nat->World->Prop) (txt:ByteArray)
abbrev adrP (pb:Nat) (txt:ByteArray):List Value:=[.int .i64 2,.int .i64 0,.pointer (some ⟨pb,0,none⟩),.string txt]
def D9 (Q:Nat->World->Prop) (pb g:Nat) (o1 o2:Obj):Prop:=∀ w:World,w.heap[pb]? = some o1->w.heap[g]? = some o2->Q pb w
def PatOk (src:ByteArray) (k e:Nat) (Q:Nat->World->Prop) (txt:ByteArray):Prop:=
 ∀ (w:World) (b:Nat),Cur w b src k->Nm w->b≠4->w.cell? ⟨b,2,none⟩=some (.int .i64 4)->Calls Tryz.prog 139 #[.pointer (some ⟨b,0,none⟩)] w fun r w'=>∃ pb g o1 o2,r=.returned (.agg #[.pointer (some ⟨pb,0,none⟩),.string txt])/\w'.heap[pb]? = some o1/\w'.heap[g]? = some o2/\w.heap.size<=pb/\w.heap.size<=g/\D9 Q pb g o1 o2/\Cur w' b src e/\Mv b w w'
def Adr.ok (src:ByteArray) (k e:Nat):Adr->Prop
 | .num x=>isD src k=true/\∃ n,numN src 1 1000000 k n 0 k=some (x,e)
 | .last=>isD src k=false/\saw src k 36=true/\e=k+1
 | .pat Q txt=>isD src k=false/\saw src k 36=false/\saw src k 47=true/\PatOk src k e Q txt
theorem Tryz.zw:(Tryz.prog.info? 132).map (fun i=>(i.zero,i.size,i.bytes))=some (some (.agg (iE 0 0).toArray),4,40):=by kernel_rfl
def jG (lo:Nat) (w:World):Adr->List Value->Prop
 | .num x,v=>v=iE 0 x
 | .last,v=>v=iE 1 0
 | .pat Q txt,v=>∃ pb g o1 o2,v=adrP pb txt/\w.heap[pb]? = some o1/\w.heap[g]? = some o2/\lo<=pb/\lo<=g/\D9 Q pb g o1 o2
theorem jG.four {lo:Nat} {w:World} {A:Adr} {v:List Value} (h:jG lo w A v):∃ x0 x1 x2 x3,v=[x0,x1,x2,x3]/\∀ u∈[x0,x1,x2,x3],u.oneCell'=true:=by
 cases A with
 | num x=>exact ⟨_,_,_,_,h,by intro u hu;simp at hu;rcases hu with rfl | rfl | rfl | rfl <;> rfl⟩
 | last=>exact ⟨_,_,_,_,h,by intro u hu;simp at hu;rcases hu with rfl | rfl | rfl | rfl <;> rfl⟩
 | pat Q txt=>
  obtain ⟨pb,g,o1,o2,e,_⟩:=h;exact ⟨_,_,_,_,e,by intro u hu;simp at hu;rcases hu with rfl | rfl | rfl | rfl <;> rfl⟩
theorem jG.aj {lo:Nat} {w w':World} {S:List Nat} {A:Adr} {v:List Value} (h:jG lo w A v) (k:Kp S w w') (hS:∀ x∈S,x < lo\/w.heap.size<=x):jG lo w' A v:=by
 cases A with
 | num x=>exact h
 | last=>exact h
 | pat Q txt=>
  obtain ⟨pb,g,o1,o2,e,h1,h2,l1,l2,hb⟩:=h;have q1:=aM h1;have q2:=aM h2;exact ⟨pb,g,o1,o2,e,(k.block pb q1 (fun m=>by rcases hS pb m with q | q <;> omega)).trans h1,(k.block g q2 (fun m=>by rcases hS g m with q | q <;> omega)).trans h2,l1,l2,hb⟩
theorem jG.lower {lo lo':Nat} {w:World} {A:Adr} {v:List Value} (h:jG lo w A v) (hl:lo'<=lo):jG lo' w A v:=by
 cases A with
 | num x=>exact h
 | last=>exact h
 | pat Q txt=>
  obtain ⟨pb,g,o1,o2,e,h1,h2,l1,l2,hb⟩:=h;exact ⟨pb,g,o1,o2,e,h1,h2,Nx hl l1,Nx hl l2,hb⟩
theorem aR {w w':World} {o:Option Nat} {S:List Nat} (h:w.grownBy w' o) (hS:∀ p,o=some p->p∈S):Kp S w w':=
 ⟨h.os,h.tape,h.output,h.size,fun k hk hn=>h.block k hk (fun e=>hn (hS k (by first | exact e | exact e.symm)))⟩
def Jt (lo:Nat) (w:World) (v:Value) (L:List Adr):Prop:=
 (L=[]/\v=.slice none 0 0)\/∃ p c cells,v=.slice (some ⟨p,0,none⟩) L.length c/\w.heap[p]? = some (.cells cells 132 (0,0))/\∀ i A,L[i]? = some A->∃ va,jG lo w A va/\∀ j u,va[j]? = some u->cells[4 * i+j]? = some u
section
variable {w w':World} {b k:Nat} {src:ByteArray}
theorem Ap {e:Nat} {Q:Nat->World->Prop} {txt:ByteArray} (hr:Cur w b src k) (hw:Nm w) (hbg:b≠4) (hc2:w.cell? ⟨b,2,none⟩=some (.int .i64 4)) (hd:isD src k=false) (h36:saw src k 36=false) (h:PatOk src k e Q txt) :
  Calls Tryz.prog 168 #[.pointer (some ⟨b,0,none⟩)] w fun r w'=>∃ v,r=.returned (.agg v.toArray)/\jG w.heap.size w' (.pat Q txt) v/\Cur w' b src e/\Mv b w w':=by
 have H:=hid h;clear h;have hA:=hr.aj (Kp.alloc [] w (.cells (iE 0 0).toArray 132)) (by simp);have hlt:=hr.lt;have mA:Mv b w (w.alloc (.cells (iE 0 0).toArray 132)):=Mv.alloc hlt _;have B0:=hid (Bl.alloc w (iE 0 0) 132);go_enter Tryz.func168,Tryz.ntmps168
 go_wp2_with fail;refine (dA hA hd).mono ?_;rintro r w1 ⟨rfl,h1,m1⟩;go_wp2_with fail;refine (aY 36 h1 h36).mono ?_;rintro r w2 ⟨rfl,h2,m2⟩;go_wp2_with fail;refine (H.out _ _ h2 (hw.aj (mA.trans (m1.trans m2)).kp (by simpa using Ne.symm hbg)) hbg (((mA.trans (m1.trans m2)).same 2 (by omega)).trans hc2)).mono ?_;rintro r w3 ⟨pb,g,o1,o2,rfl,p1,p2,p3,p4,p5,h3,m3⟩;have m13:=m1.trans (m2.trans m3);have B2:=B0.out.aj m13.kp (by simp;omega);have e0:=B2.at_ 0 _ rfl;have e1:=B2.at_ 1 _ rfl;have e2:=B2.at_ 2 _ rfl;have e3:=B2.at_ 3 _ rfl;have f0:=B2.free 0;have f1:=B2.free 1;have f2:=B2.free 2;have f3:=B2.free 3;have HP:=hid (And.intro p1 (And.intro p2 (And.intro p3 (And.intro p4 p5))));clear p1 p2 p3 p4 p5;go_wp2_with fail;have B3:Bl (w3.setCells w.heap.size 0 (adrP pb txt)) w.heap.size (adrP pb txt):=B2.put rfl;have k3:Kp [w.heap.size] w3 (w3.setCells w.heap.size 0 (adrP pb txt)):=dI (by simp) _ _ _
 obtain ⟨p1,p2,p3,p4,p5⟩:=HP.out;have z2:w.heap.size < w2.heap.size:=by
  have:=(m1.trans m2).kp.size;simp at this;omega
 refine bodyPost_ret (eC (p:=2) (ty:=132) (by rw [Tryz.results168]) _ _ w.heap.size 0 rfl _ _ B3.range Tryz.underlying132 rfl (by rw [Tryz.nM];rfl)) rfl ⟨_,rfl,⟨pb,g,o1,o2,rfl,(k3.block pb (aM p1) (by simp;omega)).trans p1,(k3.block g (aM p2) (by simp;omega)).trans p2,by omega,by omega,p5⟩,h3.aj k3 (by simp;omega),(mA.trans m13).fresh k3 (Nw _) hlt⟩
theorem jE {e:Nat} {A:Adr} (hr:Cur w b src k) (hw:Nm w) (hbg:b≠4) (hc2:w.cell? ⟨b,2,none⟩=some (.int .i64 4)) (h:A.ok src k e) :
  Calls Tryz.prog 168 #[.pointer (some ⟨b,0,none⟩)] w fun r w'=>∃ v,r=.returned (.agg v.toArray)/\jG w.heap.size w' A v/\Cur w' b src e/\Mv b w w':=by
 cases A with
 | num x=>obtain ⟨h1,n,h2⟩:=h;exact (Aq hr h1 h2).mono fun r w' ⟨q1,q2⟩=>⟨_,q1,rfl,q2⟩
 | last=>obtain ⟨h1,h2,rfl⟩:=h;exact (yb hr h1 h2).mono fun r w' ⟨q1,q2⟩=>⟨_,q1,rfl,q2⟩
 | pat Q txt=>obtain ⟨h1,h2,_,h3⟩:=h;exact Ap hr hw hbg hc2 h1 h2 h3
theorem MR {A:Adr} {e:Nat} (h:A.ok src k e):isA src k=true:=by
 cases A with
 | num x=>simp [isA,h.1]
 | last=>simp [isA,h.2.1]
 | pat Q txt=>simp [isA,h.2.2.1]
theorem pJ (hr:Cur w b src k) (h:isA src k=false) :
  Calls Tryz.prog 151 #[.pointer (some ⟨b,0,none⟩)] w fun r w'=>r=.returned (.slice none 0 0)/\Cur w' b src k/\Mv b w w':=by
 go_enter Tryz.func151,Tryz.ntmps151
 go_wp2_with fail;refine (ew hr h).mono ?_;rintro r w1 ⟨rfl,h1,m1⟩;go_wp2_with fail;go_ret;exact ⟨rfl,h1,m1⟩
theorem tX {e:Nat} {A:Adr} (hr:Cur w b src k) (hw:Nm w) (hbg:b≠4) (hc2:w.cell? ⟨b,2,none⟩=some (.int .i64 4)) (h:A.ok src k e) (hc:saw src e 44=false) :
  Calls Tryz.prog 151 #[.pointer (some ⟨b,0,none⟩)] w fun r w'=>∃ v,r=.returned v/\Jt w.heap.size w' v [A]/\(∀ p,v.ownBlock=some p->w.heap.size<=p)/\Cur w' b src e/\Mv b w w':=by
 have HA:=hid (MR h);have H:=hid h;have hlt:=hr.lt;clear h;go_enter Tryz.func151,Tryz.ntmps151
 go_wp2_with fail;refine (ew hr HA.out).mono ?_;rintro r w1 ⟨rfl,h1,m1⟩;go_wp2_with fail;refine (jE h1 (hw.aj m1.kp (by simpa using Ne.symm hbg)) hbg ((m1.same 2 (by omega)).trans hc2) H.out).mono ?_;rintro r w2 ⟨va,rfl,hva,h2,m2⟩;obtain ⟨x0,x1,x2,x3,rfl,_⟩:=hva.four;have HVA:=hid hva;clear hva;go_wp2_with fail;refine (aY 44 (h2.aj (Kp.alloc [] w2 _) (by simp)) hc).mono ?_;rintro r w3 ⟨rfl,h3,m3⟩;go_wp2_with fail;go_ret;have m12:=m1.trans m2;have mA:Mv b w2 (w2.alloc (.cells #[x0,x1,x2,x3] 132)):=Mv.alloc h2.lt _;have hh:(w2.alloc (.cells #[x0,x1,x2,x3] 132)).heap[w2.heap.size]? = some (.cells #[x0,x1,x2,x3] 132):=by show (w2.heap.push _)[w2.heap.size]? = _;simp
 have hne:w2.heap.size≠b:=by have:=h2.lt;omega
 refine ⟨_,rfl,.inr ⟨w2.heap.size,1,#[x0,x1,x2,x3],rfl,(m3.kp.block _ (by simp) (by simpa using hne)).trans hh,fun i B hi=>?_⟩,fun p hp=>?_,h3,m12.trans (mA.trans m3)⟩
 .match i,hi with
  | 0,hi=>
   injection hi with hi;subst hi;have z1:=m1.kp.size;exact ⟨_,((HVA.out.aj (Kp.alloc [] w2 (.cells #[x0,x1,x2,x3] 132)) (by simp)).aj m3.kp (fun x hx=>.inl (by simp at hx;omega))).lower z1,fun j u hu=>by simpa using hu⟩
 .injection hp with hp;subst hp;exact m12.kp.size
theorem tW {e1 e:Nat} {A B:Adr} (hr:Cur w b src k) (hw:Nm w) (hbg:b≠4) (hc2:w.cell? ⟨b,2,none⟩=some (.int .i64 4)) (h:A.ok src k e1) (hc:saw src e1 44=true) (h':B.ok src (e1+1) e) :
  Calls Tryz.prog 151 #[.pointer (some ⟨b,0,none⟩)] w fun r w'=>∃ v,r=.returned v/\Jt w.heap.size w' v [A,B]/\(∀ p,v.ownBlock=some p->w.heap.size<=p)/\Cur w' b src e/\Mv b w w':=by
 have HA:=hid (MR h);have H:=hid h;have H':=hid h';have hlt:=hr.lt;obtain ⟨i0,hi,hz0,hz1,hz2⟩:=info_parts Tryz.zw;have HI:=hid (And.intro hi (And.intro hz0 (And.intro hz1 hz2)));clear h h' hi hz0 hz1 hz2;go_enter Tryz.func151,Tryz.ntmps151
 go_wp2_with fail;refine (ew hr HA.out).mono ?_;rintro r w1 ⟨rfl,h1,m1⟩;go_wp2_with fail;refine (jE h1 (hw.aj m1.kp (by simpa using Ne.symm hbg)) hbg ((m1.same 2 (by omega)).trans hc2) H.out).mono ?_;rintro r w2 ⟨va,rfl,hva,h2,m2⟩;obtain ⟨x0,x1,x2,x3,rfl,_⟩:=hva.four;have HVA:=hid hva;clear hva;go_wp2_with fail;refine (aY 44 (h2.aj (Kp.alloc [] w2 _) (by simp)) hc).mono ?_;rintro r w3 ⟨rfl,h3,m3⟩;go_wp2_with fail;refine (jE h3 (hw.aj (m1.trans (m2.trans ((Mv.alloc h2.lt (.cells #[x0,x1,x2,x3] 132)).trans m3))).kp (by simpa using Ne.symm hbg)) hbg (((m1.trans (m2.trans ((Mv.alloc h2.lt (.cells #[x0,x1,x2,x3] 132)).trans m3))).same 2 (by omega)).trans hc2) H'.out).mono ?_;rintro r w4 ⟨vb,rfl,hvb,h4,m4⟩;obtain ⟨y0,y1,y2,y3,rfl,ho'⟩:=hvb.four;have HO':=hid ho';have HVB:=hid hvb;clear hvb ho';have m12:=m1.trans m2;have mA:Mv b w2 (w2.alloc (.cells #[x0,x1,x2,x3] 132)):=Mv.alloc h2.lt _;have hh:(w2.alloc (.cells #[x0,x1,x2,x3] 132)).heap[w2.heap.size]? = some (.cells #[x0,x1,x2,x3] 132):=by show (w2.heap.push _)[w2.heap.size]? = _;simp
 have hne:w2.heap.size≠b:=by have:=h2.lt;omega
 have m34:=m3.trans m4;have hh4:w4.heap[w2.heap.size]? = some (.cells #[x0,x1,x2,x3] 132):=(m34.kp.block _ (by simp) (by simpa using hne)).trans hh
 have ow:w4.ownsRow w2.heap.size 132 4 (.slice (some ⟨w2.heap.size,0,none⟩) 1 1) 1 [x0,x1,x2,x3]:=
  ⟨rfl,.inr ⟨w2.heap.size,1,#[x0,x1,x2,x3],rfl,Nw _,hh4,Nw _,by simp [maxLen],rfl,rfl⟩⟩
 have hsz:w2.heap.size < w4.heap.size:=aM hh4;have OW:=hid (ag (w':=w4.alloc (.cells #[y0,y1,y2,y3] 132)) ow (fun p hp=>(Kp.alloc [] w4 _).block p (az ow hp).2 (by simp)));clear ow hh hh4;have BN:=hid (Bl.alloc w4 [y0,y1,y2,y3] 132);go_wp2_with (at_builtin;refine dh rfl _ _ 80 rfl w2.heap.size 132 i0 (.agg (iE 0 0).toArray) 4 40 Tryz.underlying80 HI.out.1 HI.out.2.1 HI.out.2.2.1 HI.out.2.2.2 rfl (by decide) (.slice (some ⟨w2.heap.size,0,none⟩) 1 1) 1 _ rfl OW.out ⟨w4.heap.size,0,none⟩ 1 1 [y0,y1,y2,y3] rfl rfl (fun j u hu=>by rw [Addr.add_mid,NJ];exact BN.out.at_ j u hu) HO'.out (by simp [maxLen]) (by omega) (by simp;omega) (by omega) ?_;intro g cap w5 ho5 hg5 hor5)
 go_ret;have k5:Kp [w2.heap.size] (w4.alloc (.cells #[y0,y1,y2,y3] 132)) w5:=aR hg5 (fun p hp=>by injection hp with hp;simp [<-hp]);have m5:Mv b w (w4.alloc (.cells #[y0,y1,y2,y3] 132)):=m12.trans (mA.trans (m34.trans (Mv.alloc h4.lt _)));have mf:=m5.fresh k5 m12.kp.size hlt;refine ⟨_,rfl,.inr ?_,fun p hp=>?_,(h4.aj (Kp.alloc [] w4 _) (by simp)).aj k5 (by simpa using Ne.symm hne),mf⟩
 .rcases ho5.2 with ⟨q,_⟩ | ⟨g',cap',cur,q1,q2,q3,q4,q5,q6,q7⟩
  .simp at q
  .injection q1 with q1 _ q1';injection q1 with q1;injection q1 with q1;subst q1;refine ⟨g,cap,cur,rfl,q3,fun i C hi=>?_⟩;have key:∀ n u,([x0,x1,x2,x3]++[y0,y1,y2,y3])[n]? = some u->cur[n]? = some u:=fun n u hu=>by
    rw [<-q7,Ov] at hu;split at hu
    .simpa using hu
    .cases hu
   match i,hi with
   | 0,hi=>
    injection hi with hi;subst hi;have kA:Kp [b,w2.heap.size] w2 w5:=((Kp.alloc [] w2 (.cells #[x0,x1,x2,x3] 132)).mono (by simp)).trans ((m34.kp.mono (by simp)).trans (((Kp.alloc [] w4 (.cells #[y0,y1,y2,y3] 132)).mono (by simp)).trans (k5.mono (by simp))));have z1:=m1.kp.size;refine ⟨_,(HVA.out.aj kA (fun x hx=>by simp at hx;rcases hx with q | q <;> omega)).lower z1,fun j u hu=>key _ _ ?_⟩;rw [Ob (by have:=(List.getElem?_eq_some_iff.1 hu).1;simp at this ⊢;omega)];simpa using hu
   | 1,hi=>
    injection hi with hi;subst hi;have z3:=m3.kp.size;have z1:=m12.kp.size;simp at z3;refine ⟨_,((HVB.out.aj (Kp.alloc [] w4 (.cells #[y0,y1,y2,y3] 132)) (by simp)).aj k5 (fun x hx=>.inl (by simp at hx;omega))).lower (by omega),fun j u hu=>key _ _ ?_⟩;rw [NR (by simp)];simpa using hu
 .have hp':g=p:=by simpa [Value.ownBlock] using hp
  subst hp';have s4:=m34.kp.size;have s2:=m12.kp.size;rcases hor5 with q | q
  .have:w2.heap.size=g:=by simpa [Value.ownBlock] using q
   omega
  .simp at q s4;omega
end
section
variable {P:Program} {md:Region.Mode} {ops:Array Oper} {Q:Exit->Act->World->Prop} {S:World->Prop} {z:Nat}
def dM (P:Program) (md:Region.Mode) (ops:Array Oper) (Q:Exit->Act->World->Prop) (S:World->Prop) (z:Nat):Nat->Array Bool->Act->World->Prop
 | 0,listed,a,w=>Region.ready md ops listed=[]/\Q .normal a w
 | fuel+1,listed,a,w=>(Region.ready md ops listed=[]->Q .normal a w) /\
   ∀ i∈Region.ready md ops listed,wpOp P ops Q i (fun a' w'=>(i=z\/S w')/\dM P md ops Q S z fuel (listed.setIfInBounds i true) a' w') a w
theorem jI:∀ (fuel:Nat) (listed:Array Bool) (a:Act) (w:World),dM P md ops Q S z fuel listed a w->wpAny P md ops Q fuel listed a w
 | 0,_,_,_,h=>h
 | fuel+1,_,_,_,h=>⟨h.1,fun i hi=>wpOp_mono (fun a' w' q=>jI fuel _ a' w' q.2) (h.2 i hi)⟩
theorem uh {i:Nat} {oi:Oper} {v:Value} (hi:ops[i]? = some oi) (hsel:∀ (j:Nat) (o:Oper) cs b,ops[j]? = some o->o.op≠.select cs b)
  (hQ:∀ c a w,Q (.panic c) (a.put oi.dst v) w->Q (.panic c) a w) (hz:Region.waitsFor md ops z i=true) (fuel:Nat) :
  ∀ (listed:Array Bool) (a:Act) (w:World),
   (∀ j oj,ops[j]? = some oj->j≠i->listed.getD j true=false->(∀ e∈oj.after,Region.binds md e=true->e.on≠i)->oi.apart ops oj=true) ->
   i∈Region.ready md ops listed->YieldsIf P ops S oi v a->S w ->
   dM P md ops Q S z fuel (listed.setIfInBounds i true) (a.put oi.dst v) w->dM P md ops Q S z (fuel+1) listed a w:=by
 induction fuel with
 | zero=>
  intro listed a w _ hr hy hS H;refine ⟨fun h=>(by rw [h] at hr;cases hr),fun j hj=>?_⟩;by_cases hji:j=i
  .subst hji;exact hy.wpOp hi hS ⟨.inr hS,H⟩
  .have:=ready_mono hj hji;rw [H.1] at this
   cases this
 | succ fuel ih=>
  intro listed a w hfree hr hy hS H;refine ⟨fun h=>(by rw [h] at hr;cases hr),fun j hj=>?_⟩;by_cases hji:j=i
  .subst hji;exact hy.wpOp hi hS ⟨.inr hS,H⟩
  .have h1:=H.2 j (ready_mono hj hji);obtain ⟨hjun,oj,hoj,hall⟩:=mem_ready.1 hj;have hnot:∀ e∈oj.after,Region.binds md e=true->e.on≠i:=fun e he hb heq=>by
    have h1:=hall e he hb;have h0:=(mem_ready.1 hr).1;rw [heq] at h1;rcases Nat.lt_or_ge i listed.size with h' | h'
    .simp [h'] at h0 h1;rw [h0] at h1;cases h1
    .simp [Array.getElem?_eq_none h'] at h1
   have h2:=wpOp_putIf hoj (hfree j oj hoj hji hjun hnot) (fun cs b=>hsel i oi cs b hi) (fun cs b=>hsel j oj cs b hoj) hQ hy h1;have hjz:j≠z:=fun e=>by
    obtain ⟨oz,hoz,x,hx,hb,hon⟩:=Region.waitsFor_spec hz;rw [e,hoz] at hoj;have e2:=Option.some.inj hoj;exact hnot x (e2 ▸ hx) hb hon
   have hfree':∀ k ok,ops[k]? = some ok->k≠i->(listed.setIfInBounds j true).getD k true=false ->
     (∀ e∈ok.after,Region.binds md e=true->e.on≠i)->oi.apart ops ok=true:=fun k ok hk hki hun hno=>by
    refine hfree k ok hk hki ?_ hno;by_cases hjk:j=k
    .subst hjk;exact hjun
    .rw [getD_set_ne true hjk] at hun;exact hun
   refine wpOp_mono (fun a' w' h3=>?_) h2;have hS':S w':=h3.2.1.resolve_left hjz;refine ⟨.inr hS',ih (listed.setIfInBounds j true) a' w' hfree' (ready_mono hr (Ne.symm hji)) h3.1 hS' ?_⟩;rw [Array.setIfInBounds_comm _ _ hji];exact h3.2.2
theorem aQ {i:Nat} {oi:Oper} {v:Value} {fuel:Nat} {listed:Array Bool} {a:Act} {w:World} (hi:ops[i]? = some oi)
  (hs:Region.noSelect ops=true) (hf:Region.free md ops listed i=true) (hr:(Region.ready md ops listed).contains i=true) (hz:Region.waitsFor md ops z i=true)
  (hQ:∀ c a w,Q (.panic c) (a.put oi.dst v) w->Q (.panic c) a w) (hy:YieldsIf P ops S oi v a) (hS:S w)
  (h:dM P md ops Q S z fuel (listed.setIfInBounds i true) (a.put oi.dst v) w):dM P md ops Q S z (fuel+1) listed a w:=
 uh hi (Region.noSelect_spec hs) hQ hz fuel listed a w (Region.free_spec hi hf) (by simpa using hr) hy hS h
def tkB (md:Region.Mode) (ops:Array Oper) (listed:Array Bool) (z i:Nat):Bool:=Region.noSelect ops && Region.free md ops listed i && (Region.ready md ops listed).contains i && Region.waitsFor md ops z i
theorem tk1 (i:Nat) {oi:Oper} {v:Value} {fuel:Nat} {listed:Array Bool} {a:Act} {w:World} (hi:ops[i]? = some oi) (hb:tkB md ops listed z i=true)
  (hQ:∀ c a w,Q (.panic c) (a.put oi.dst v) w->Q (.panic c) a w) (hy:Region.wanted oi (yielded ops a.tmps)=true/\∀ w,S w->(execOp a.eval oi).run P w=.ok (.value v) w) (hS:S w)
  (h:dM P md ops Q S z fuel (listed.setIfInBounds i true) (a.put oi.dst v) w):dM P md ops Q S z (fuel+1) listed a w:=by
 unfold tkB at hb;simp only [OM] at hb;exact aQ hi hb.1.1.1 hb.1.1.2 hb.1.2 hb.2 hQ (Or.inl hy) hS h
theorem tkn {oi:Oper} {v:Value} {fuel:Nat} {listed:Array Bool} {a:Act} {w:World} (hi:ops[ops.size - (fuel+1)]? = some oi) (hb:tkB md ops listed z (ops.size - (fuel+1))=true)
  (hQ:∀ c a w,Q (.panic c) (a.put oi.dst v) w->Q (.panic c) a w) (hy:Region.wanted oi (yielded ops a.tmps)=true/\∀ w,S w->(execOp a.eval oi).run P w=.ok (.value v) w) (hS:S w)
  (h:dM P md ops Q S z fuel (listed.setIfInBounds (ops.size - (fuel+1)) true) (a.put oi.dst v) w):dM P md ops Q S z (fuel+1) listed a w:=tk1 _ hi hb hQ hy hS h
theorem ai {i:Nat} {o:Oper} {fuel:Nat} {listed:Array Bool} {a:Act} {w:World} (hr:Region.ready md ops listed=[i]) (ho:ops[i]? = some o)
  (h:∀ K:Act->World->Prop,Shut (∀ a' w',(i=z\/S w')->dM P md ops Q S z fuel (listed.setIfInBounds i true) a' w'->K a' w')->if Region.wanted o (yielded ops a.tmps)=true then Oper.wp P o a w K Q else K (a.put o.dst undef) w) :
  dM P md ops Q S z (fuel+1) listed a w:=by
 refine ⟨fun h0=>(by rw [hr] at h0;cases h0),fun j hj=>?_⟩;rw [hr] at hj;have e:=List.mem_singleton.1 hj;subst e;exact wpOp_step ho (fun K hK=>h K (fun a' w' h1 h2=>hK a' w' ⟨h1,h2⟩))
theorem eI {i j:Nat} {o o':Oper} {fuel:Nat} {listed:Array Bool} {a:Act} {w:World} (hr:Region.ready md ops listed=[i,j]) (ho:ops[i]? = some o) (ho':ops[j]? = some o')
  (h:∀ K:Act->World->Prop,Shut (∀ a' w',(i=z\/S w')->dM P md ops Q S z fuel (listed.setIfInBounds i true) a' w'->K a' w')->if Region.wanted o (yielded ops a.tmps)=true then Oper.wp P o a w K Q else K (a.put o.dst undef) w)
  (h':∀ K:Act->World->Prop,Shut (∀ a' w',(j=z\/S w')->dM P md ops Q S z fuel (listed.setIfInBounds j true) a' w'->K a' w')->if Region.wanted o' (yielded ops a.tmps)=true then Oper.wp P o' a w K Q else K (a.put o'.dst undef) w) :
  dM P md ops Q S z (fuel+1) listed a w:=by
 refine ⟨fun h0=>(by rw [hr] at h0;cases h0),fun k hk=>?_⟩;rw [hr] at hk;rcases List.mem_cons.1 hk with e | hk
 .subst e;exact wpOp_step ho (fun K hK=>h K (fun a' w' h1 h2=>hK a' w' ⟨h1,h2⟩))
 .have e:=List.mem_singleton.1 hk;subst e;exact wpOp_step ho' (fun K hK=>h' K (fun a' w' h1 h2=>hK a' w' ⟨h1,h2⟩))
theorem ax {listed:Array Bool} {a:Act} {w:World} (hr:Region.ready md ops listed=[]) (h:Q .normal a w):∀ fuel,dM P md ops Q S z fuel listed a w
 | 0=>⟨hr,h⟩
 | _+1=>⟨fun _=>h,by rw [hr];intro i hi;cases hi⟩
theorem aA {id:Nat} {a:Act} {w:World} (S:World->Prop) (z:Nat) (hm:P.follows .mixedOrders=true)
  (h:dM P .any ops Q S z ops.size (Array.replicate ops.size false) a w.drew):(Code.region id ops true).wp P Q a w:=
 wp_region_any hm (jI _ _ _ _ h)
end
theorem BR:∀ (l:List Value) (o:Nat) (z:Array Value),o+l.length<=z.size->((l.zipIdx o).foldl (fun (cs:Array Value) (p:Value×Nat)=>cs.setIfInBounds p.2 p.1) z).toList=z.toList.take o++l++z.toList.drop (o+l.length)
 | [],o,z,_=>by simp
 | v::l,o,z,h=>by
  rw [NO] at h;rw [Pr,List.foldl_cons,BR l (o+1) _ (by simp;omega)];have ho:o < z.toList.length:=by simp;omega
  rw [Array.toList_setIfInBounds,List.take_set,List.drop_set_of_lt (by omega),NO,show o+1+l.length=o+(l.length+1) by omega]
  congr 1
  rw [show v::l=[v]++l from rfl,<-NP]
  congr 1
  rw [Oy ho,OG _ _ (by rw [N3];omega)]
  congr 1
  rw [N3,Nat.min_eq_left (by omega),OL]
  rfl
theorem Lo {n:Nat} {z:Array Value} {cv:List Value} (h:cv.length=n) (hz:z.size=n):Instr.fill (fun i=>some (i * n,n)) z [(0,.agg cv.toArray)]=some cv.toArray:=by
 have e:=BR cv 0 z (by omega);simp only [NJ,List.take_zero,Ox] at e;rw [OB (by simp;omega),OE] at e;simp [Instr.fill,Value.cells,h,hz];apply Array.toList_inj.1;exact e
theorem JN {P:Program} {ops:Array Oper} {o:Oper} {a:Act} {w:World} {K:Act->World->Prop} {Q:Exit->Act->World->Prop} {E:Prop} (hg:o.guard=none) (t e:TypeId) (x:Operand) (ho:o.op=.buildSlice t 1 #[(0,x)])
  (cv:List Value) (ie:TypeInfo) (z:Value) (n:Nat) (hx:a.eval x=.agg cv.toArray) (hu:P.underlying t=some (.slice e)) (hie:P.info? e=some ie) (hz:ie.zero=some z) (hn:ie.size=n) (hzs:z.cells.size=n) (hl:cv.length=n) (h0:0 < n) (h24:n<=1000)
  (h:K (a.put o.dst (.slice (some ⟨w.heap.size,0,none⟩) 1 1)) (w.alloc (.cells cv.toArray e))):if Region.wanted o (yielded ops a.tmps)=true then Oper.wp P o a w K Q else E:=by
 have hw:Region.wanted o (yielded ops a.tmps)=true:=by simp [Region.wanted,hg]
 rw [Ny hw];refine wp_buildSlice t e 1 _ ho cv.toArray ie z hu hie hz (by rw [hn];omega) (by rw [hn];omega) ?_ h;simp only [List.map_toArray,OX,Pg,hx,hn];exact Lo hl (by simp)
