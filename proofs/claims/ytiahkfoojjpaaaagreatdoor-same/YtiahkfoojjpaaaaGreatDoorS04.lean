import Derived.Test.YtiahkfoojjpaaaaGreatDoorS03
import Derived.Test.YtiahkfoojjpaaaaGreatDoorS01
import Derived.Deep.RegionHeld3
import Derived.StillTail
import Derived.Great.BuildSlice
import Derived.Deep.CutRange
set_option maxRecDepth 100000
set_option maxHeartbeats 16000000
set_option linter.all false
namespace Go.Proofs.YtiahkfoojjpaaaaGreatDoor
open Go.RowKit
section
variable {P:Program}{md:Region.Mode}{ops:Array Oper}{Q:Exit->Act->World->Prop}{S:World->Prop}{z:Nat}
def dZ(P:Program)(md:Region.Mode)(ops:Array Oper)(Q:Exit->Act->World->Prop)(S:World->Prop)(z:Nat):Nat->Array Bool->Act->World->Prop
 | 0,listed,a,w=>Region.ready md ops listed=[]/\Q .normal a w
 | fuel+1,listed,a,w=>(Region.ready md ops listed=[]->Q .normal a w) /\
   ∀i∈Region.ready md ops listed,wpOp P ops Q i (fun a' w'=>(i=z\/S w')/\dZ P md ops Q S z fuel (listed.setIfInBounds i true) a' w') a w
theorem lS:∀(fuel:Nat) (listed:Array Bool) (a:Act) (w:World),dZ P md ops Q S z fuel listed a w->wpAny P md ops Q fuel listed a w
 | 0,_,_,_,h=>h
 | fuel+1,_,_,_,h=>⟨h.1,fun i hi=>wpOp_mono (fun a' w' q=>lS fuel _ a' w' q.2) (h.2 i hi)⟩
theorem xX{i:Nat}{oi:Oper}{v:Value}(hi:ops[i]? = some oi)(hsel:∀(j:Nat) (o:Oper) cs b,ops[j]? = some o->o.op≠.select cs b)(hQ:∀c a w,Q (.panic c) (a.put oi.dst v) w->Q (.panic c) a w)(hz:Region.waitsFor md ops z i=true)(fuel:Nat):∀(listed:Array Bool) (a:Act) (w:World), (∀j oj,ops[j]? = some oj->j≠i->listed.getD j true=false->(∀e∈oj.after,Region.binds md e=true->e.on≠i)->oi.apart ops oj=true) -> i∈Region.ready md ops listed->YieldsIf P ops S oi v a->S w -> dZ P md ops Q S z fuel (listed.setIfInBounds i true) (a.put oi.dst v) w->dZ P md ops Q S z (fuel+1) listed a w:=by
 induction fuel with
 | zero=>
  intro listed a w _ hr hy hS H;refine⟨fun h=>(by rw[h] at hr;cases hr),fun j hj=>?_⟩;by_cases hji:j=i
  .subst hji;exact hy.wpOp hi hS ⟨.inr hS,H⟩
  .have:=ready_mono hj hji;rw[H.1] at this
   cases this
 | succ fuel ih=>
  intro listed a w hfree hr hy hS H;refine⟨fun h=>(by rw[h] at hr;cases hr),fun j hj=>?_⟩;by_cases hji:j=i
  .subst hji;exact hy.wpOp hi hS ⟨.inr hS,H⟩
  .have h1:=H.2 j (ready_mono hj hji);obtain⟨hjun,oj,hoj,hall⟩:=mem_ready.1 hj;have hnot:∀e∈oj.after,Region.binds md e=true->e.on≠i:=fun e he hb heq=>by
    have h1:=hall e he hb;have h0:=(mem_ready.1 hr).1;rw[heq] at h1;rcases Nat.lt_or_ge i listed.size with h'|h'
    .simp[h'] at h0 h1;rw[h0] at h1;cases h1
    .simp[Array.getElem?_eq_none h'] at h1
   have h2:=wpOp_putIf hoj (hfree j oj hoj hji hjun hnot) (fun cs b=>hsel i oi cs b hi) (fun cs b=>hsel j oj cs b hoj) hQ hy h1;have hjz:j≠z:=fun e=>by
    obtain⟨oz,hoz,x,hx,hb,hon⟩:=Region.waitsFor_spec hz;rw[e,hoz] at hoj;have e2:=Option.some.inj hoj;exact hnot x (e2 ▸ hx) hb hon
   have hfree':∀k ok,ops[k]? = some ok->k≠i->(listed.setIfInBounds j true).getD k true=false ->
     (∀e∈ok.after,Region.binds md e=true->e.on≠i)->oi.apart ops ok=true:=fun k ok hk hki hun hno=>by
    refine hfree k ok hk hki ?_ hno;by_cases hjk:j=k
    .subst hjk;exact hjun
    .rw[getD_set_ne true hjk] at hun;exact hun
   refine wpOp_mono (fun a' w' h3=>?_) h2;have hS':S w':=h3.2.1.resolve_left hjz;refine⟨.inr hS',ih (listed.setIfInBounds j true) a' w' hfree' (ready_mono hr (Ne.symm hji)) h3.1 hS' ?_⟩;rw[Array.setIfInBounds_comm _ _ hji];exact h3.2.2
theorem aS{i:Nat}{oi:Oper}{v:Value}{fuel:Nat}{listed:Array Bool}{a:Act}{w:World}(hi:ops[i]? = some oi)(hs:Region.noSelect ops=true)(hf:Region.free md ops listed i=true)(hr:(Region.ready md ops listed).contains i=true)(hz:Region.waitsFor md ops z i=true)(hQ:∀c a w,Q (.panic c) (a.put oi.dst v) w->Q (.panic c) a w)(hy:YieldsIf P ops S oi v a)(hS:S w)(h:dZ P md ops Q S z fuel (listed.setIfInBounds i true) (a.put oi.dst v) w):dZ P md ops Q S z (fuel+1) listed a w:=
 xX hi (Region.noSelect_spec hs) hQ hz fuel listed a w (Region.free_spec hi hf) (by simpa using hr) hy hS h
def tkB(md:Region.Mode)(ops:Array Oper)(listed:Array Bool)(z i:Nat):Bool:=Region.noSelect ops&&Region.free md ops listed i&&(Region.ready md ops listed).contains i&&Region.waitsFor md ops z i
theorem tk1(i:Nat){oi:Oper}{v:Value}{fuel:Nat}{listed:Array Bool}{a:Act}{w:World}(hi:ops[i]? = some oi)(hb:tkB md ops listed z i=true)(hQ:∀c a w,Q (.panic c) (a.put oi.dst v) w->Q (.panic c) a w)(hy:Region.wanted oi (yielded ops a.tmps)=true/\∀w,S w->(execOp a.eval oi).run P w=.ok (.value v) w)(hS:S w)(h:dZ P md ops Q S z fuel (listed.setIfInBounds i true) (a.put oi.dst v) w):dZ P md ops Q S z (fuel+1) listed a w:=by
 unfold tkB at hb;simp only[RO] at hb;exact aS hi hb.1.1.1 hb.1.1.2 hb.1.2 hb.2 hQ (Or.inl hy) hS h
theorem tkn{oi:Oper}{v:Value}{fuel:Nat}{listed:Array Bool}{a:Act}{w:World}(hi:ops[ops.size-(fuel+1)]? = some oi)(hb:tkB md ops listed z (ops.size-(fuel+1))=true)(hQ:∀c a w,Q (.panic c) (a.put oi.dst v) w->Q (.panic c) a w)(hy:Region.wanted oi (yielded ops a.tmps)=true/\∀w,S w->(execOp a.eval oi).run P w=.ok (.value v) w)(hS:S w)(h:dZ P md ops Q S z fuel (listed.setIfInBounds (ops.size-(fuel+1)) true) (a.put oi.dst v) w):dZ P md ops Q S z (fuel+1) listed a w:=tk1 _ hi hb hQ hy hS h
theorem ai{i:Nat}{o:Oper}{fuel:Nat}{listed:Array Bool}{a:Act}{w:World}(hr:Region.ready md ops listed=[i])(ho:ops[i]? = some o)(h:∀K:Act->World->Prop,Shut (∀a' w',(i=z\/S w')->dZ P md ops Q S z fuel (listed.setIfInBounds i true) a' w'->K a' w')->if Region.wanted o (yielded ops a.tmps)=true then Oper.wp P o a w K Q else K (a.put o.dst undef) w):dZ P md ops Q S z (fuel+1) listed a w:=by
 refine⟨fun h0=>(by rw[hr] at h0;cases h0),fun j hj=>?_⟩;rw[hr] at hj;have e:=List.mem_singleton.1 hj;subst e;exact wpOp_step ho (fun K hK=>h K (fun a' w' h1 h2=>hK a' w' ⟨h1,h2⟩))
theorem fh{i j:Nat}{o o':Oper}{fuel:Nat}{listed:Array Bool}{a:Act}{w:World}(hr:Region.ready md ops listed=[i,j])(ho:ops[i]? = some o)(ho':ops[j]? = some o')(h:∀K:Act->World->Prop,Shut (∀a' w',(i=z\/S w')->dZ P md ops Q S z fuel (listed.setIfInBounds i true) a' w'->K a' w')->if Region.wanted o (yielded ops a.tmps)=true then Oper.wp P o a w K Q else K (a.put o.dst undef) w)(h':∀K:Act->World->Prop,Shut (∀a' w',(j=z\/S w')->dZ P md ops Q S z fuel (listed.setIfInBounds j true) a' w'->K a' w')->if Region.wanted o' (yielded ops a.tmps)=true then Oper.wp P o' a w K Q else K (a.put o'.dst undef) w):dZ P md ops Q S z (fuel+1) listed a w:=by
 refine⟨fun h0=>(by rw[hr] at h0;cases h0),fun k hk=>?_⟩;rw[hr] at hk;rcases List.mem_cons.1 hk with e|hk
 .subst e;exact wpOp_step ho (fun K hK=>h K (fun a' w' h1 h2=>hK a' w' ⟨h1,h2⟩))
 .have e:=List.mem_singleton.1 hk;subst e;exact wpOp_step ho' (fun K hK=>h' K (fun a' w' h1 h2=>hK a' w' ⟨h1,h2⟩))
theorem ax{listed:Array Bool}{a:Act}{w:World}(hr:Region.ready md ops listed=[])(h:Q .normal a w):∀fuel,dZ P md ops Q S z fuel listed a w
 | 0=>⟨hr,h⟩
 | _+1=>⟨fun _=>h,by rw[hr];intro i hi;cases hi⟩
theorem az{id:Nat}{a:Act}{w:World}(S:World->Prop)(z:Nat)(hm:P.follows .mixedOrders=true)(h:dZ P .any ops Q S z ops.size (Array.replicate ops.size false) a w.drew):(Code.region id ops true).wp P Q a w:=
 wp_region_any hm (lS _ _ _ _ h)
end
theorem DQ:∀(l:List Value) (o:Nat) (z:Array Value),o+l.length<=z.size->((l.zipIdx o).foldl (fun(cs:Array Value) (p:Value×Nat)=>cs.setIfInBounds p.2 p.1) z).toList=z.toList.take o++l++z.toList.drop (o+l.length)
 | [],o,z,_=>by simp
 | v::l,o,z,h=>by
  rw[QF] at h;rw[SS,List.foldl_cons,DQ l (o+1) _ (by simp;omega)];have ho:o<z.toList.length:=by simp;omega
  rw[Array.toList_setIfInBounds,List.take_set,List.drop_set_of_lt (by omega),QF,show o+1+l.length=o+(l.length+1) by omega]
  congr 1
  rw[show v::l=[v]++l from rfl,<-QJ]
  congr 1
  rw[RJ ho,RV _ _ (by rw[Re];omega)]
  congr 1
  rw[Re,Nat.min_eq_left (by omega),R6]
  rfl
theorem Om{n:Nat}{z:Array Value}{cv:List Value}(h:cv.length=n)(hz:z.size=n):Instr.fill (fun i=>some (i*n,n)) z [(0,.agg cv.toArray)]=some cv.toArray:=by
 have e:=DQ cv 0 z (by omega);simp only[QH,List.take_zero,Rx] at e;rw[RP (by simp;omega),Ry] at e;simp[Instr.fill,Value.cells,h,hz];apply Array.toList_inj.1;exact e
theorem Ms{P:Program}{ops:Array Oper}{o:Oper}{a:Act}{w:World}{K:Act->World->Prop}{Q:Exit->Act->World->Prop}{E:Prop}(hg:o.guard=none)(t e:TypeId)(x:Operand)(ho:o.op=.buildSlice t 1 #[(0,x)])(cv:List Value)(ie:TypeInfo)(z:Value)(n:Nat)(hx:a.eval x=.agg cv.toArray)(hu:P.underlying t=some (.slice e))(hie:P.info? e=some ie)(hz:ie.zero=some z)(hn:ie.size=n)(hzs:z.cells.size=n)(hl:cv.length=n)(h0:0<n)(h24:n<=1000)(h:K (a.put o.dst (.slice (some ⟨w.heap.size,0,none⟩) 1 1)) (w.alloc (.cells cv.toArray e))):if Region.wanted o (yielded ops a.tmps)=true then Oper.wp P o a w K Q else E:=by
 have hw:Region.wanted o (yielded ops a.tmps)=true:=by simp[Region.wanted,hg]
 rw[QB hw];refine wp_buildSlice t e 1 _ ho cv.toArray ie z hu hie hz (by rw[hn];omega) (by rw[hn];omega) ?_ h;simp only[List.map_toArray,SQ,List.map_nil,hx,hn];exact Om hl (by simp)
inductive Adr
 | num (x:Nat)
 | last
 | pat (Q:Nat->World->Prop) (txt:ByteArray)
abbrev adrP(pb:Nat)(txt:ByteArray):List Value:=[.int .i64 2,.int .i64 0,.pointer (some ⟨pb,0,none⟩),.string txt]
def Hc(Q:Nat->World->Prop)(pb g:Nat)(o1 o2:Obj):Prop:=∀w:World,w.heap[pb]? = some o1->w.heap[g]? = some o2->Q pb w
def PatOk(src:ByteArray)(k e:Nat)(Q:Nat->World->Prop)(txt:ByteArray):Prop:=
 ∀(w:World) (b:Nat),Cur w b src k->Nm w->b≠4->w.cell? ⟨b,2,none⟩=some (.int .i64 4)->Calls Tryz.prog 139 #[.pointer (some ⟨b,0,none⟩)] w fun r w'=>∃pb g o1 o2,r=.returned (.agg #[.pointer (some ⟨pb,0,none⟩),.string txt])/\w'.heap[pb]? = some o1/\w'.heap[g]? = some o2/\w.heap.size<=pb/\w.heap.size<=g/\Hc Q pb g o1 o2/\Cur w' b src e/\Mv b w w'
def Adr.ok(src:ByteArray)(k e:Nat):Adr->Prop
 | .num x=>isD src k=true/\∃n,Nu src 1 1000000 k n 0 k=some (x,e)
 | .last=>isD src k=false/\saw src k 36=true/\e=k+1
 | .pat Q txt=>isD src k=false/\saw src k 36=false/\saw src k 47=true/\PatOk src k e Q txt
theorem Tryz.Br:(Tryz.prog.info? 132).map (fun i=>(i.zero,i.size,i.bytes))=some (some (.agg (jq 0 0).toArray),4,40):=by kernel_rfl
def lP(lo:Nat)(w:World):Adr->List Value->Prop
 | .num x,v=>v=jq 0 x
 | .last,v=>v=jq 1 0
 | .pat Q txt,v=>∃pb g o1 o2,v=adrP pb txt/\w.heap[pb]? = some o1/\w.heap[g]? = some o2/\lo<=pb/\lo<=g/\Hc Q pb g o1 o2
theorem lP.four{lo:Nat}{w:World}{A:Adr}{v:List Value}(h:lP lo w A v):∃x0 x1 x2 x3,v=[x0,x1,x2,x3]/\∀u∈[x0,x1,x2,x3],u.oneCell'=true:=by
 cases A with
 | num x=>exact⟨_,_,_,_,h,by intro u hu;simp at hu;rcases hu with rfl|rfl|rfl|rfl<;>rfl⟩
 | last=>exact⟨_,_,_,_,h,by intro u hu;simp at hu;rcases hu with rfl|rfl|rfl|rfl<;>rfl⟩
 | pat Q txt=>
  obtain⟨pb,g,o1,o2,e,_⟩:=h;exact⟨_,_,_,_,e,by intro u hu;simp at hu;rcases hu with rfl|rfl|rfl|rfl<;>rfl⟩
theorem lP.aj{lo:Nat}{w w':World}{S:List Nat}{A:Adr}{v:List Value}(h:lP lo w A v)(k:Kp S w w')(hS:∀x∈S,x<lo\/w.heap.size<=x):lP lo w' A v:=by
 cases A with
 | num x=>exact h
 | last=>exact h
 | pat Q txt=>
  obtain⟨pb,g,o1,o2,e,h1,h2,l1,l2,hb⟩:=h;have q1:=aN h1;have q2:=aN h2;exact⟨pb,g,o1,o2,e,(k.block pb q1 (fun m=>by rcases hS pb m with q|q<;>omega)).trans h1,(k.block g q2 (fun m=>by rcases hS g m with q|q<;>omega)).trans h2,l1,l2,hb⟩
theorem lP.lower{lo lo':Nat}{w:World}{A:Adr}{v:List Value}(h:lP lo w A v)(hl:lo'<=lo):lP lo' w A v:=by
 cases A with
 | num x=>exact h
 | last=>exact h
 | pat Q txt=>
  obtain⟨pb,g,o1,o2,e,h1,h2,l1,l2,hb⟩:=h;exact⟨pb,g,o1,o2,e,h1,h2,QC hl l1,QC hl l2,hb⟩
theorem aX{w w':World}{o:Option Nat}{S:List Nat}(h:w.grownBy w' o)(hS:∀p,o=some p->p∈S):Kp S w w':=
 ⟨h.os,h.tape,h.output,h.size,fun k hk hn=>h.block k hk (fun e=>hn (hS k (by first|exact e|exact e.symm)))⟩
def LQ(lo:Nat)(w:World)(v:Value)(L:List Adr):Prop:=
 (L=[]/\v=.slice none 0 0)\/∃p c cells,v=.slice (some ⟨p,0,none⟩) L.length c/\w.heap[p]? = some (.cells cells 132 (0,0))/\∀i A,L[i]? = some A->∃va,lP lo w A va/\∀j u,va[j]? = some u->cells[4*i+j]? = some u
section
variable {w w':World}{b k:Nat}{src:ByteArray}
theorem Cn{e:Nat}{Q:Nat->World->Prop}{txt:ByteArray}(hr:Cur w b src k)(hw:Nm w)(hbg:b≠4)(hc2:w.cell? ⟨b,2,none⟩=some (.int .i64 4))(hd:isD src k=false)(h36:saw src k 36=false)(h:PatOk src k e Q txt):Calls Tryz.prog 168 #[.pointer (some ⟨b,0,none⟩)] w fun r w'=>∃v,r=.returned (.agg v.toArray)/\lP w.heap.size w' (.pat Q txt) v/\Cur w' b src e/\Mv b w w':=by
 have H:=hid h;clear h;have hA:=hr.aj (Kp.alloc [] w (.cells (jq 0 0).toArray 132)) (by simp);have hlt:=hr.lt;have mA:Mv b w (w.alloc (.cells (jq 0 0).toArray 132)):=Mv.alloc hlt _;have B0:=hid (Bl.alloc w (jq 0 0) 132);go_enter Tryz.func168,Tryz.ntmps168
 go_wp2_with fail;refine(dG hA hd).mono ?_;rintro r w1 ⟨rfl,h1,m1⟩;go_wp2_with fail;refine(df 36 h1 h36).mono ?_;rintro r w2 ⟨rfl,h2,m2⟩;go_wp2_with fail;refine(H.out _ _ h2 (hw.aj (mA.trans (m1.trans m2)).kp (by simpa using Ne.symm hbg)) hbg (((mA.trans (m1.trans m2)).same 2 (by omega)).trans hc2)).mono ?_;rintro r w3 ⟨pb,g,o1,o2,rfl,p1,p2,p3,p4,p5,h3,m3⟩;have m13:=m1.trans (m2.trans m3);have B2:=B0.out.aj m13.kp (by simp;omega);have e0:=B2.at_ 0 _ rfl;have e1:=B2.at_ 1 _ rfl;have e2:=B2.at_ 2 _ rfl;have e3:=B2.at_ 3 _ rfl;have f0:=B2.free 0;have f1:=B2.free 1;have f2:=B2.free 2;have f3:=B2.free 3;have HP:=hid (And.intro p1 (And.intro p2 (And.intro p3 (And.intro p4 p5))));clear p1 p2 p3 p4 p5;go_wp2_with fail;have B3:Bl (w3.setCells w.heap.size 0 (adrP pb txt)) w.heap.size (adrP pb txt):=B2.put rfl;have k3:Kp [w.heap.size] w3 (w3.setCells w.heap.size 0 (adrP pb txt)):=dV (by simp) _ _ _
 obtain⟨p1,p2,p3,p4,p5⟩:=HP.out;have z2:w.heap.size<w2.heap.size:=by
  have:=(m1.trans m2).kp.size;simp at this;omega
 refine bodyPost_ret (eX (p:=2) (ty:=132) (by rw[Tryz.results168]) _ _ w.heap.size 0 rfl _ _ B3.range Tryz.underlying132 rfl (by rw[Tryz.pJ];rfl)) rfl ⟨_,rfl,⟨pb,g,o1,o2,rfl,(k3.block pb (aN p1) (by simp;omega)).trans p1,(k3.block g (aN p2) (by simp;omega)).trans p2,by omega,by omega,p5⟩,h3.aj k3 (by simp;omega),(mA.trans m13).fresh k3 (QD _) hlt⟩
theorem lM{e:Nat}{A:Adr}(hr:Cur w b src k)(hw:Nm w)(hbg:b≠4)(hc2:w.cell? ⟨b,2,none⟩=some (.int .i64 4))(h:A.ok src k e):Calls Tryz.prog 168 #[.pointer (some ⟨b,0,none⟩)] w fun r w'=>∃v,r=.returned (.agg v.toArray)/\lP w.heap.size w' A v/\Cur w' b src e/\Mv b w w':=by
 cases A with
 | num x=>obtain⟨h1,n,h2⟩:=h;exact(Co hr h1 h2).mono fun r w' ⟨q1,q2⟩=>⟨_,q1,rfl,q2⟩
 | last=>obtain⟨h1,h2,rfl⟩:=h;exact(Ah hr h1 h2).mono fun r w' ⟨q1,q2⟩=>⟨_,q1,rfl,q2⟩
 | pat Q txt=>obtain⟨h1,h2,_,h3⟩:=h;exact Cn hr hw hbg hc2 h1 h2 h3
theorem P7{A:Adr}{e:Nat}(h:A.ok src k e):isA src k=true:=by
 cases A with
 | num x=>simp[isA,h.1]
 | last=>simp[isA,h.2.1]
 | pat Q txt=>simp[isA,h.2.2.1]
theorem rp(hr:Cur w b src k)(h:isA src k=false):Calls Tryz.prog 151 #[.pointer (some ⟨b,0,none⟩)] w fun r w'=>r=.returned (.slice none 0 0)/\Cur w' b src k/\Mv b w w':=by
 go_enter Tryz.func151,Tryz.ntmps151
 go_wp2_with fail;refine(eW hr h).mono ?_;rintro r w1 ⟨rfl,h1,m1⟩;go_wp2_with fail;go_ret;exact⟨rfl,h1,m1⟩
theorem xJ{e:Nat}{A:Adr}(hr:Cur w b src k)(hw:Nm w)(hbg:b≠4)(hc2:w.cell? ⟨b,2,none⟩=some (.int .i64 4))(h:A.ok src k e)(hc:saw src e 44=false):Calls Tryz.prog 151 #[.pointer (some ⟨b,0,none⟩)] w fun r w'=>∃v,r=.returned v/\LQ w.heap.size w' v [A]/\(∀p,v.ownBlock=some p->w.heap.size<=p)/\Cur w' b src e/\Mv b w w':=by
 have HA:=hid (P7 h);have H:=hid h;have hlt:=hr.lt;clear h;go_enter Tryz.func151,Tryz.ntmps151
 go_wp2_with fail;refine(eW hr HA.out).mono ?_;rintro r w1 ⟨rfl,h1,m1⟩;go_wp2_with fail;refine(lM h1 (hw.aj m1.kp (by simpa using Ne.symm hbg)) hbg ((m1.same 2 (by omega)).trans hc2) H.out).mono ?_;rintro r w2 ⟨va,rfl,hva,h2,m2⟩;obtain⟨x0,x1,x2,x3,rfl,_⟩:=hva.four;have HVA:=hid hva;clear hva;go_wp2_with fail;refine(df 44 (h2.aj (Kp.alloc [] w2 _) (by simp)) hc).mono ?_;rintro r w3 ⟨rfl,h3,m3⟩;go_wp2_with fail;go_ret;have m12:=m1.trans m2;have mA:Mv b w2 (w2.alloc (.cells #[x0,x1,x2,x3] 132)):=Mv.alloc h2.lt _;have hh:(w2.alloc (.cells #[x0,x1,x2,x3] 132)).heap[w2.heap.size]? = some (.cells #[x0,x1,x2,x3] 132):=by show(w2.heap.push _)[w2.heap.size]? = _;simp
 have hne:w2.heap.size≠b:=by have:=h2.lt;omega
 refine⟨_,rfl,.inr ⟨w2.heap.size,1,#[x0,x1,x2,x3],rfl,(m3.kp.block _ (by simp) (by simpa using hne)).trans hh,fun i B hi=>?_⟩,fun p hp=>?_,h3,m12.trans (mA.trans m3)⟩
 .match i,hi with
  | 0,hi=>
   injection hi with hi;subst hi;have z1:=m1.kp.size;exact⟨_,((HVA.out.aj (Kp.alloc [] w2 (.cells #[x0,x1,x2,x3] 132)) (by simp)).aj m3.kp (fun x hx=>.inl (by simp at hx;omega))).lower z1,fun j u hu=>by simpa using hu⟩
 .injection hp with hp;subst hp;exact m12.kp.size
theorem xI{e1 e:Nat}{A B:Adr}(hr:Cur w b src k)(hw:Nm w)(hbg:b≠4)(hc2:w.cell? ⟨b,2,none⟩=some (.int .i64 4))(h:A.ok src k e1)(hc:saw src e1 44=true)(h':B.ok src (e1+1) e):Calls Tryz.prog 151 #[.pointer (some ⟨b,0,none⟩)] w fun r w'=>∃v,r=.returned v/\LQ w.heap.size w' v [A,B]/\(∀p,v.ownBlock=some p->w.heap.size<=p)/\Cur w' b src e/\Mv b w w':=by
 have HA:=hid (P7 h);have H:=hid h;have H':=hid h';have hlt:=hr.lt;obtain⟨i0,hi,hz0,hz1,hz2⟩:=info_parts Tryz.Br;have HI:=hid (And.intro hi (And.intro hz0 (And.intro hz1 hz2)));clear h h' hi hz0 hz1 hz2;go_enter Tryz.func151,Tryz.ntmps151
 go_wp2_with fail;refine(eW hr HA.out).mono ?_;rintro r w1 ⟨rfl,h1,m1⟩;go_wp2_with fail;refine(lM h1 (hw.aj m1.kp (by simpa using Ne.symm hbg)) hbg ((m1.same 2 (by omega)).trans hc2) H.out).mono ?_;rintro r w2 ⟨va,rfl,hva,h2,m2⟩;obtain⟨x0,x1,x2,x3,rfl,_⟩:=hva.four;have HVA:=hid hva;clear hva;go_wp2_with fail;refine(df 44 (h2.aj (Kp.alloc [] w2 _) (by simp)) hc).mono ?_;rintro r w3 ⟨rfl,h3,m3⟩;go_wp2_with fail;refine(lM h3 (hw.aj (m1.trans (m2.trans ((Mv.alloc h2.lt (.cells #[x0,x1,x2,x3] 132)).trans m3))).kp (by simpa using Ne.symm hbg)) hbg (((m1.trans (m2.trans ((Mv.alloc h2.lt (.cells #[x0,x1,x2,x3] 132)).trans m3))).same 2 (by omega)).trans hc2) H'.out).mono ?_;rintro r w4 ⟨vb,rfl,hvb,h4,m4⟩;obtain⟨y0,y1,y2,y3,rfl,ho'⟩:=hvb.four;have HO':=hid ho';have HVB:=hid hvb;clear hvb ho';have m12:=m1.trans m2;have mA:Mv b w2 (w2.alloc (.cells #[x0,x1,x2,x3] 132)):=Mv.alloc h2.lt _;have hh:(w2.alloc (.cells #[x0,x1,x2,x3] 132)).heap[w2.heap.size]? = some (.cells #[x0,x1,x2,x3] 132):=by show(w2.heap.push _)[w2.heap.size]? = _;simp
 have hne:w2.heap.size≠b:=by have:=h2.lt;omega
 have m34:=m3.trans m4;have hh4:w4.heap[w2.heap.size]? = some (.cells #[x0,x1,x2,x3] 132):=(m34.kp.block _ (by simp) (by simpa using hne)).trans hh
 have ow:w4.ownsRow w2.heap.size 132 4 (.slice (some ⟨w2.heap.size,0,none⟩) 1 1) 1 [x0,x1,x2,x3]:=
  ⟨rfl,.inr ⟨w2.heap.size,1,#[x0,x1,x2,x3],rfl,QD _,hh4,QD _,by simp[maxLen],rfl,rfl⟩⟩
 have hsz:w2.heap.size<w4.heap.size:=aN hh4;have OW:=hid (ag (w':=w4.alloc (.cells #[y0,y1,y2,y3] 132)) ow (fun p hp=>(Kp.alloc [] w4 _).block p (aA ow hp).2 (by simp)));clear ow hh hh4;have BN:=hid (Bl.alloc w4 [y0,y1,y2,y3] 132);go_wp2_with (at_builtin;refine dP rfl _ _ 80 rfl w2.heap.size 132 i0 (.agg (jq 0 0).toArray) 4 40 Tryz.underlying80 HI.out.1 HI.out.2.1 HI.out.2.2.1 HI.out.2.2.2 rfl (by decide) (.slice (some ⟨w2.heap.size,0,none⟩) 1 1) 1 _ rfl OW.out ⟨w4.heap.size,0,none⟩ 1 1 [y0,y1,y2,y3] rfl rfl (fun j u hu=>by rw[Addr.add_mid,QH];exact BN.out.at_ j u hu) HO'.out (by simp[maxLen]) (by omega) (by simp;omega) (by omega) ?_;intro g cap w5 ho5 hg5 hor5)
 go_ret;have k5:Kp [w2.heap.size] (w4.alloc (.cells #[y0,y1,y2,y3] 132)) w5:=aX hg5 (fun p hp=>by injection hp with hp;simp[<-hp]);have m5:Mv b w (w4.alloc (.cells #[y0,y1,y2,y3] 132)):=m12.trans (mA.trans (m34.trans (Mv.alloc h4.lt _)));have mf:=m5.fresh k5 m12.kp.size hlt;refine⟨_,rfl,.inr ?_,fun p hp=>?_,(h4.aj (Kp.alloc [] w4 _) (by simp)).aj k5 (by simpa using Ne.symm hne),mf⟩
 .rcases ho5.2 with⟨q,_⟩|⟨g',cap',cur,q1,q2,q3,q4,q5,q6,q7⟩
  .simp at q
  .injection q1 with q1 _ q1';injection q1 with q1;injection q1 with q1;subst q1;refine⟨g,cap,cur,rfl,q3,fun i C hi=>?_⟩;have key:∀n u,([x0,x1,x2,x3]++[y0,y1,y2,y3])[n]? = some u->cur[n]? = some u:=fun n u hu=>by
    rw[<-q7,Rr] at hu;split at hu
    .simpa using hu
    .cases hu
   match i,hi with
   | 0,hi=>
    injection hi with hi;subst hi;have kA:Kp [b,w2.heap.size] w2 w5:=((Kp.alloc [] w2 (.cells #[x0,x1,x2,x3] 132)).mono (by simp)).trans ((m34.kp.mono (by simp)).trans (((Kp.alloc [] w4 (.cells #[y0,y1,y2,y3] 132)).mono (by simp)).trans (k5.mono (by simp))));have z1:=m1.kp.size;refine⟨_,(HVA.out.aj kA (fun x hx=>by simp at hx;rcases hx with q|q<;>omega)).lower z1,fun j u hu=>key _ _ ?_⟩;rw[Q5 (by have:=(List.getElem?_eq_some_iff.1 hu).1;simp at this ⊢;omega)];simpa using hu
   | 1,hi=>
    injection hi with hi;subst hi;have z3:=m3.kp.size;have z1:=m12.kp.size;simp at z3;refine⟨_,((HVB.out.aj (Kp.alloc [] w4 (.cells #[y0,y1,y2,y3] 132)) (by simp)).aj k5 (fun x hx=>.inl (by simp at hx;omega))).lower (by omega),fun j u hu=>key _ _ ?_⟩;rw[QU (by simp)];simpa using hu
 .have hp':g=p:=by simpa[Value.ownBlock] using hp
  subst hp';have s4:=m34.kp.size;have s2:=m12.kp.size;rcases hor5 with q|q
  .have:w2.heap.size=g:=by simpa[Value.ownBlock] using q
   omega
  .simp at q s4;omega
end
theorem gS{P:Program}{w:World}{t k e:TypeId}{b c i:Nat}{es:Array MapEntry}{x:Int}{v:Value}(ht:P.underlying t=some (.map k e))(hk:P.underlying k=some (.int .u8))(hb:w.heap[b]? = some (.map es c))(hf:Instr.findNow (.int .u8) (.int .u8 x) es.toList 0=some (some (i,v))):(Instr.lookup t (.map (some b)) (.int .u8 x) true).run P w=.ok (.tuple #[v,.bool true]) w:=by
 have hkey:MapKept.IsKey (.int .u8) (.int .u8 x):=by simp[MapKept.IsKey]
 simp[Instr.lookup,run_underlying ht,MapKept.run_getObj_map hb,MapKept.run_checkKey hk hkey,MapKept.run_findKey hk hf,Result.andThen]
def Enters(f:Nat):Prop:=∀p q w,(callFunc f #[p,q]).run Tryz.prog w=.ok (.enter f #[p,q]) w
structure Cv(cv:List Value):Prop where
 len:cv.length=23
 one:∀u∈cv,u.oneCell'=true
theorem Cv.set{cv:List Value}(h:Cv cv)(j:Nat){v:Value}(hv:v.oneCell'=true):Cv (cv.set j v):=
 ⟨by simpa using h.len,fun u hu=>by
   rcases Rm hu with q|q
   .exact h.one u q
   .rw[q];exact hv⟩
def Cz(cv:List Value):Prop:=cv.drop 4=[.string ⟨#[]⟩,.int .i64 0,.string ⟨#[]⟩,.int .i64 0,.int .i64 0,.string ⟨#[]⟩,.string ⟨#[]⟩,.pointer none,.string ⟨#[]⟩,.string ⟨#[]⟩,.string ⟨#[]⟩,.slice none 0 0,.bool false,.int .i64 0,.bool false,.string ⟨#[]⟩,.string ⟨#[]⟩,.string ⟨#[]⟩,.string ⟨#[]⟩]
theorem Cz.set3{cv:List Value}(h:Cz cv)(v:Value):Cz (cv.set 3 v):=by
 unfold Cz at h ⊢;rw[List.drop_set_of_lt (by omega)];exact h
theorem Cz.at_{cv:List Value}(_:Cz cv)(j:Nat):cv[4+j]? = (cv.drop 4)[j]?:=by rw[Rt]
def OpOk(w0:World)(f b:Nat)(src:ByteArray)(k e:Nat)(R:Sst->List Value->Sst->List Value->Prop):Prop:=
 ∀w σ cb cv,Sr w0 w b src k σ->Bl w cb cv->Cv cv->Cz cv->Sr.Far w0 b σ cb->Small σ 2000 ->
  Calls Tryz.prog f #[.pointer (some ⟨b,0,none⟩),.pointer (some ⟨cb,0,none⟩)] w fun r w'=>∃σ' cv',r=.returned (.tuple #[])/\Sr w0 w' b src e σ'/\Bl w' cb cv'/\Cv cv'/\Sr.Far w0 b σ' cb/\R σ cv σ' cv'
def Ek(w0:World)(f b:Nat)(src:ByteArray)(k e:Nat)(σ:Sst)(R:Sst->List Value->Sst->List Value->Prop):Prop:=
 ∀w cb cv,Sr w0 w b src k σ->Bl w cb cv->Cv cv->Cz cv->Sr.Far w0 b σ cb->Small σ 2000 ->
  Calls Tryz.prog f #[.pointer (some ⟨b,0,none⟩),.pointer (some ⟨cb,0,none⟩)] w fun r w'=>∃σ' cv',r=.returned (.tuple #[])/\Sr w0 w' b src e σ'/\Bl w' cb cv'/\Cv cv'/\Sr.Far w0 b σ' cb/\R σ cv σ' cv'
theorem OpOk.at_{w0:World}{f b:Nat}{src:ByteArray}{k e:Nat}{R:Sst->List Value->Sst->List Value->Prop}(h:OpOk w0 f b src k e R)(σ:Sst):Ek w0 f b src k e σ R:=fun w cb cv=>h w σ cb cv
theorem Fp(w0:World)(b:Nat)(src:ByteArray)(k:Nat):OpOk w0 101 b src k k (fun σ cv σ' cv'=>σ'=σ/\cv'=cv):=by
 intro w σ cb cv hs hb hl _ hf _;go_enter Tryz.func101,Tryz.ntmps101
 go_wp2;go_end0;exact⟨σ,cv,rfl,hs,hb,hl,hf,rfl,rfl⟩
theorem Jk(w0:World){b:Nat}{src:ByteArray}{k n x e:Nat}(h:Nu src 0 255 (blk src k) n 0 (blk src k)=some (x,e)):OpOk w0 99 b src k e (fun σ cv σ' cv'=>σ'=σ/\cv'=cv.set 8 (.int .i64 x)):=by
 intro w σ cb cv hs hb hl _ hf _;have H:=hid h;clear h;have hlt:=hs.cur.lt;have hne:cb≠b:=fun e=>hf.bk 0 (by rw[e];rfl);go_enter Tryz.func99,Tryz.ntmps99
 go_wp2_with fail;refine(dS hs.cur).mono ?_;rintro r w1 ⟨rfl,h1,m1⟩;go_wp2_with fail;refine(uJ (lo:=0) (hi:=255) h1 (by omega) H.out).mono ?_;rintro r w2 ⟨rfl,h2,m2⟩;have m12:=m1.trans m2;have b2:=hb.aj m12.kp (by simpa using hne);have f8:=b2.free 8;have hx8:8<cv.length:=by rw[hl.len];omega
 have c8:=b2.at_ 8 _ (QA hx8);go_wp2_with fail;go_end0;have k3:Kp [cb] w2 (w2.setCell ⟨cb,8,none⟩ (.int .i64 x)):=Kp.setCell _ _ (by simp);exact⟨σ,_,rfl,(hs.move m12 h2).other k3 (fun y hy=>by simp at hy;rw[hy];exact hf),b2.set 8 _ hx8,hl.set 8 rfl,hf,rfl,rfl⟩
theorem what_v{w0 w:World}{b cb:Nat}{src:ByteArray}{k e f i x n c:Nat}{A:Option Addr}{nt:Bool}{σ:Sst}{cv:List Value}{R:Sst->List Value->Sst->List Value->Prop}(hs:Sr w0 w b src k σ)(hb:Bl w cb cv)(hl:Cv cv)(hz:Cz cv)(hf:Sr.Far w0 b σ cb)(hsl:Small σ 2000)(hk:k<src.size)(hx:(src[k]).toNat=x)(ht:Instr.findNow (.int .u8) (.int .u8 x) (uj 0 opsL) 0=some (some (i,.func (.func f) #[] #[])))(h0:cv[0]? = some (.slice A n c))(h2:cv[2]? = some (.bool nt))(hbare:(x=125\/x=58)->n=0/\nt=false)(ho:Ek w0 f b src (k+1) e σ R)(hce:Enters f):Calls Tryz.prog 152 #[.pointer (some ⟨b,0,none⟩),.pointer (some ⟨cb,0,none⟩)] w fun r w'=>∃σ' cv',r=.returned (.tuple #[])/\Sr w0 w' b src e σ'/\Bl w' cb cv'/\Cv cv'/\Sr.Far w0 b σ' cb/\R σ (cv.set 3 (.int .u8 x)) σ' cv':=by
 have hlt:=hs.cur.lt;have hne:cb≠b:=fun e=>hf.bk 0 (by rw[e];rfl);have he:((k:Int)==(src.size:Int))=false:=by simp;omega
 have c5:(⟨src.data⟩:ByteArray)[k].toNat=x:=hx;have HT:=hid ht;have HO:=hid ho;have HB:=hid hbare;clear ht ho hbare hx;go_enter Tryz.func152,Tryz.ntmps152
 go_wp2_with fail;refine(du hs.cur he).mono ?_;rintro r w1 ⟨rfl,h1,m1⟩;have s1:=hs.move m1 h1;have b1:=hb.aj m1.kp (by simpa using hne);have d0:=h1.c0;have d1:=h1.c1;have f3:=b1.free 3;have g3:=b1.at_ 3 _ (QA (show 3<cv.length by rw[hl.len];omega));go_upto_region 2 with fail
 go_cut [4] from 15 (fun _ wx=>wx=w1.drew.setCell ⟨cb,3,none⟩ (.int .u8 x))
 case first=>
  go_region
  all_goals
   go_wp2_with fail;go_meet
   case rel=>rfl
 case rest=>
 subst hcut;obtain⟨w2,hw2⟩:∃w2,w2=w1.drew.setCell ⟨cb,3,none⟩ (.int .u8 x):=⟨_,rfl⟩;rw[<-hw2];have k2:Kp [cb] w1 w2:=by rw[hw2];exact(Kp.drew _ _).trans (Kp.setCell _ _ (by simp))
 have s2:Sr w0 w2 b src k σ:=s1.other k2 (fun y hy=>by simp at hy;rw[hy];exact hf);have b2:Bl w2 cb (cv.set 3 (.int .u8 x)):=by rw[hw2];exact(b1.aj (Kp.drew [] _) (by simp)).set 3 _ (by rw[hl.len];omega)
 have l2:Cv (cv.set 3 (.int .u8 x)):=hl.set 3 rfl;have z2:Cz (cv.set 3 (.int .u8 x)):=hz.set3 _;obtain⟨cv2,hcv2⟩:∃cv2,cv2=cv.set 3 (Value.int .u8 x):=⟨_,rfl⟩;have q0:cv2[0]? = some (.slice A n c):=by rw[hcv2,QL (by omega)];exact h0
 have q2:cv2[2]? = some (.bool nt):=by rw[hcv2,QL (by omega)];exact h2
 have q3:cv2[3]? = some (.int .u8 x):=by rw[hcv2,QI (by rw[hl.len];omega)]
 rw[<-hcv2] at b2 l2 z2;have HCV:=hid hcv2;clear hcv2 hw2 k2 s1 b1 hb hs m1 h1 d0 d1 f3 g3 h0 h2 hl;have e0:=b2.at_ 0 _ q0;have e2:=b2.at_ 2 _ q2;have e3:=b2.at_ 3 _ q3;have c7:=s2.c.c7;have hlk:∀m,(Instr.lookup 122 (.map (some σ.ob)) (.int .u8 x) true).run Tryz.prog (w2.drewN m)=.ok (.tuple #[.func (.func f) #[] #[],.bool true]) (w2.drewN m):=fun m=>
  gS Tryz.underlying122 Tryz.underlying5 (((Kp.drewN [] w2 m).block _ (s2.r.bk.hi 1 _ rfl) (by simp)).trans s2.r.m7) HT.out
 go_wp2_with fail;go_quiet (fail);have s3:=s2.aj (Kp.drewN [] w2 nq);have b3:=b2.aj (Kp.drewN [] w2 nq) (by simp);have c1:=s2.cur.c1;have f1:=s2.cur.free 1;have hsm:=s2.cur.small;unfold Enters at hce;have s4:Sr w0 ((w2.drewN nq).setCell ⟨b,1,none⟩ (.int .i64 ((k:Int)+1))) b src (k+1) σ:=s3.move (Mv.step _ _ _) (s3.cur.step hk);have b4:Bl ((w2.drewN nq).setCell ⟨b,1,none⟩ (.int .i64 ((k:Int)+1))) cb cv2:=b3.aj (Kp.setCell (S:=[b]) _ _ (by simp)) (by simpa using hne);have S4:=hid s4;have B4:=hid b4;clear s3 b3 s4 b4;by_cases hx:x=125\/x=58
 .obtain⟨rfl,rfl⟩:=HB.out hx;rcases hx with hx|hx
  .have g1:((x:Int)==125)=true:=by rw[hx];rfl
   go_wp2_with fail;refine(HO.out _ cb cv2 S4.out B4.out l2 z2 hf hsl).mono ?_;rintro r w5 ⟨σ',cv',rfl,r1,r2,r3,r4,r5⟩;go_wp2_with fail;go_end0;exact⟨σ',cv',rfl,r1,r2,r3,r4,HCV.out ▸ r5⟩
  .have g1:((x:Int)==125)=false:=by rw[hx];rfl
   have g2:((x:Int)==58)=true:=by rw[hx];rfl
   go_wp2_with fail;refine(HO.out _ cb cv2 S4.out B4.out l2 z2 hf hsl).mono ?_;rintro r w5 ⟨σ',cv',rfl,r1,r2,r3,r4,r5⟩;go_wp2_with fail;go_end0;exact⟨σ',cv',rfl,r1,r2,r3,r4,HCV.out ▸ r5⟩
 .have g1:((x:Int)==125)=false:=by rw[Qz];omega
  have g2:((x:Int)==58)=false:=by rw[Qz];omega
  go_wp2_with fail;refine(HO.out _ cb cv2 S4.out B4.out l2 z2 hf hsl).mono ?_;rintro r w5 ⟨σ',cv',rfl,r1,r2,r3,r4,r5⟩;go_wp2_with fail;go_end0;exact⟨σ',cv',rfl,r1,r2,r3,r4,HCV.out ▸ r5⟩
def tV(src:ByteArray)(k e:Nat):List Adr->Prop
 | []=>isA src k=false/\e=k
 | [A]=>A.ok src k e/\saw src e 44=false
 | [A,B]=>∃e1,A.ok src k e1/\saw src e1 44=true/\B.ok src (e1+1) e
 | _=>False
def Qp(fs:List (Nat×Obj)):Adr->List Value->Prop
 | .num x,v=>v=jq 0 x
 | .last,v=>v=jq 1 0
 | .pat Q txt,v=>∃pb g o1 o2,v=adrP pb txt/\(pb,o1)∈fs/\(g,o2)∈fs/\Hc Q pb g o1 o2
def CD(fs:List (Nat×Obj))(v:Value)(L:List Adr):Prop:=
 (L=[]/\v=.slice none 0 0)\/∃p c cells,v=.slice (some ⟨p,0,none⟩) L.length c/\(p,Obj.cells cells 132 (0,0))∈fs/\∀i A,L[i]? = some A->∃va,Qp fs A va/\∀j u,va[j]? = some u->cells[4*i+j]? = some u
theorem lP.facts{lo:Nat}{w:World}{A:Adr}{va:List Value}(h:lP lo w A va):∃new:List (Nat×Obj),(∀f∈new,w.heap[f.1]? = some f.2/\lo<=f.1)/\∀fs,(∀f∈new,f∈fs)->Qp fs A va:=by
 cases A with
 | num x=>exact⟨[],by simp,fun _ _=>h⟩
 | last=>exact⟨[],by simp,fun _ _=>h⟩
 | pat Q txt=>
  obtain⟨pb,g,o1,o2,e,h1,h2,l1,l2,hb⟩:=h;refine⟨[(pb,o1),(g,o2)],fun f hf=>?_,fun fs hfs=>⟨pb,g,o1,o2,e,hfs _ (by simp),hfs _ (by simp),hb⟩⟩;simp at hf;rcases hf with rfl|rfl
  .exact⟨h1,l1⟩
  .exact⟨h2,l2⟩
theorem zz{lo:Nat}{w:World}{C:Nat->List Value->Prop}:∀(L:List Adr) (off:Nat),(∀i A,L[i]? = some A->∃va,lP lo w A va/\C (off+i) va)->∃new:List (Nat×Obj),(∀f∈new,w.heap[f.1]? = some f.2/\lo<=f.1)/\∀fs,(∀f∈new,f∈fs)->∀i A,L[i]? = some A->∃va,Qp fs A va/\C (off+i) va
 | [],_,_=>⟨[],by simp,fun _ _ i A h=>by simp at h⟩
 | A::L,off,h=>by
  obtain⟨va,ha,hc⟩:=h 0 A rfl;obtain⟨n1,f1,g1⟩:=ha.facts
  obtain⟨n2,f2,g2⟩:=zz L (off+1) (fun i B hi=>by
   obtain⟨vb,hb,hcb⟩:=h (i+1) B (by simpa using hi)
   exact⟨vb,hb,by rw[show off+1+i=off+(i+1) by omega];exact hcb⟩)
  refine⟨n1++n2,fun f hf=>?_,fun fs hfs i B hi=>?_⟩
  .rcases List.mem_append.1 hf with q|q
   .exact f1 f q
   .exact f2 f q
  .match i,hi with
   | 0,hi=>
    injection hi with hi;subst hi;exact⟨va,g1 fs (fun f hf=>hfs f (by simp[hf])),hc⟩
   | i+1,hi=>
    obtain⟨vb,hb,hcb⟩:=g2 fs (fun f hf=>hfs f (by simp[hf])) i B (by simpa using hi);exact⟨vb,hb,by rw[show off+(i+1)=off+1+i by omega];exact hcb⟩
section
variable {w0 w w':World}{b k:Nat}{src:ByteArray}{σ:Sst}
theorem Ih(b:Nat)(σ:Sst)(fs:List (Nat×Obj)):srB b { σ with fs:=fs}=srB b σ:=by
 funext i
 rcases i with _|_|_|_|_|_|_|_|i<;>rfl
theorem rK(b:Nat)(σ:Sst)(n:Nat):srB b { σ with ranges:=n}=srB b σ:=by
 funext i
 rcases i with _|_|_|_|_|_|_|_|i<;>rfl
theorem Sr.xN(h:Sr w0 w b src k σ):∀(new:List (Nat×Obj)),(∀f∈new,w.heap[f.1]? = some f.2/\w0.heap.size<=f.1/\∀i,srB b σ i≠some f.1)->Sr w0 w b src k { σ with fs:=new++σ.fs}
 | [],_=>h
 | f::new,hn=>by
  have h1:=h.xN new (fun f hf=>hn f (by simp[hf]));obtain⟨q1,q2,q3⟩:=hn f (by simp)
  exact⟨h1.cur,⟨h1.c.c2,h1.c.c3,h1.c.c4,h1.c.c5,h1.c.c6,h1.c.c7,h1.c.c8,h1.c.c9,h1.c.c10,h1.c.c11⟩,⟨h1.r.kp,h1.r.o4,h1.r.o5,h1.r.o8,h1.r.o11,h1.r.m7,h1.r.m9,h1.r.m10,h1.r.len,by rw[Ih];exact h.r.bk,fun f' hm=>by
   rw[Ih];rcases List.mem_cons.1 hm with q|q
   .subst q;exact⟨q1,q2,q3⟩
   .have:=h1.r.fx f' q;rw[Ih] at this
    exact this⟩⟩
theorem Sr.nm(h:Sr w0 w b src k σ)(hw:Nm w0):Nm w/\b≠4:=⟨hw.aj h.r.kp (by simp),by have:=h.r.bk.lo 0 b rfl;have:=hw.lt;omega⟩
theorem lK{k1:Nat}{L:List Adr}(h:Sr w0 w b src k σ)(hw0:Nm w0)(hA:tV src k k1 L):Calls Tryz.prog 151 #[.pointer (some ⟨b,0,none⟩)] w fun r w'=>∃A c fs,r=.returned (.slice A L.length c)/\CD fs (.slice A L.length c) L/\(∀f∈σ.fs,f∈fs)/\Sr w0 w' b src k1 { σ with fs:=fs}/\Kp [b] w w':=by
 have fin:∀(w':World) (v:Value),LQ w.heap.size w' v L->(∀p,v.ownBlock=some p->w.heap.size<=p)->Cur w' b src k1->Mv b w w' ->
   ∃A c fs,Ending.returned v=.returned (.slice A L.length c)/\CD fs (.slice A L.length c) L/\(∀f∈σ.fs,f∈fs)/\Sr w0 w' b src k1 { σ with fs:=fs}/\Kp [b] w w':=by
  intro w' v ha hp hc hm;rcases ha with⟨rfl,rfl⟩|⟨p,c,cells,rfl,hh,hx⟩
  .exact⟨none,0,σ.fs,rfl,.inl ⟨rfl,rfl⟩,fun f hf=>hf,h.move hm hc,hm.kp⟩
  .obtain⟨new,n1,n2⟩:=zz (C:=fun i va=>∀j u,va[j]? = some u->cells[4*i+j]? = some u) L 0 (fun i A hi=>by
    obtain⟨va,h1,h2⟩:=hx i A hi
    exact⟨va,h1,by rw[QH];exact h2⟩)
   refine⟨_,c,((p,Obj.cells cells 132 (0,0))::new)++σ.fs,rfl,.inr ⟨p,c,cells,rfl,by simp,fun i A hi=>?_⟩,fun f hf=>by simp[hf],(h.move hm hc).xN _ (fun f hf=>?_),hm.kp⟩
   .obtain⟨va,q1,q2⟩:=n2 (((p,Obj.cells cells 132 (0,0))::new)++σ.fs) (fun f hf=>by simp[hf]) i A hi;rw[QH] at q2;exact⟨va,q1,q2⟩
   .rcases List.mem_cons.1 hf with q|q
    .subst q;have:=h.eh (hp p rfl);exact⟨hh,this.lo,this.bk⟩
    .obtain⟨q1,q2⟩:=n1 f q;have:=h.eh q2;exact⟨q1,this.lo,this.bk⟩
 match L,hA with
 | [],hA=>
  obtain⟨h1,rfl⟩:=hA;exact(rp h.cur h1).mono fun r w' ⟨hr,hc,hm⟩=>by
   subst hr;exact fin w' _ (.inl ⟨rfl,rfl⟩) (fun p hp=>by cases hp) hc hm
 | [A],hA=>exact(xJ h.cur (h.nm hw0).1 (h.nm hw0).2 h.c.c2 hA.1 hA.2).mono fun r w' ⟨v,hr,ha,hp,hc,hm⟩=>by subst hr;exact fin w' v ha hp hc hm
 | [A,B],hA=>
  obtain⟨e1,h1,h2,h3⟩:=hA;exact(xI h.cur (h.nm hw0).1 (h.nm hw0).2 h.c.c2 h1 h2 h3).mono fun r w' ⟨v,hr,ha,hp,hc,hm⟩=>by subst hr;exact fin w' v ha hp hc hm
abbrev sE:Value:=.string ⟨#[]⟩
abbrev nE:Value:=.int .i64 0
abbrev Gy(v:Value)(rng:Nat)(nt:Bool)(x:Nat):List Value:=[v,.int .i64 rng,.bool nt,.int .u8 x,sE,nE,sE,nE,nE,sE,sE,.pointer none,sE,sE,sE,.slice none 0 0,.bool false,nE,.bool false,sE,sE,sE,sE]
theorem xq(A:Option Addr)(n c rng:Nat)(nt:Bool)(x:Nat):Cv (Gy (.slice A n c) rng nt x):=⟨rfl,fun u hu=>by
 simp only[Gy,Rh,Sd,or_false] at hu
 rcases hu with h|h|h|h|h|h|h|h|h|h|h|h|h|h|h|h|h|h|h|h|h|h|h<;>subst h<;>rfl⟩
theorem eD{cv:List Value}(h:cv.length=23):∃x0 x1 x2 x3 x4 x5 x6 x7 x8 x9 x10 x11 x12 x13 x14 x15 x16 x17 x18 x19 x20 x21 x22,cv=[x0,x1,x2,x3,x4,x5,x6,x7,x8,x9,x10,x11,x12,x13,x14,x15,x16,x17,x18,x19,x20,x21,x22]:=by
 match cv,h with
 | [x0,x1,x2,x3,x4,x5,x6,x7,x8,x9,x10,x11,x12,x13,x14,x15,x16,x17,x18,x19,x20,x21,x22],_=>exact⟨_,_,_,_,_,_,_,_,_,_,_,_,_,_,_,_,_,_,_,_,_,_,_,rfl⟩
theorem Sr.fL(h:Sr w0 w b src k σ)(n:Nat):Sr w0 (w.setCell ⟨b,6,none⟩ (.int .i64 n)) b src k { σ with ranges:=n}:=by
 have kp:Kp [b] w (w.setCell ⟨b,6,none⟩ (.int .i64 n)):=Kp.setCell _ _ (by simp);have hc:∀j,j≠6->(w.setCell ⟨b,6,none⟩ (Value.int .i64 n)).cell? ⟨b,j,none⟩=w.cell? ⟨b,j,none⟩:=fun j hj=>aq _ (fun e=>by injection e with _ e2 _;exact hj e2.symm);refine⟨⟨by simpa[World.setCell] using h.cur.lt,h.cur.le,h.cur.small,(hc _ (by omega)).trans h.cur.c0,(hc _ (by omega)).trans h.cur.c1,fun i=>by simpa using h.cur.free i⟩,⟨(hc _ (by omega)).trans h.c.c2,(hc _ (by omega)).trans h.c.c3,(hc _ (by omega)).trans h.c.c4,(hc _ (by omega)).trans h.c.c5,aw _ h.c.c6,(hc _ (by omega)).trans h.c.c7,(hc _ (by omega)).trans h.c.c8,(hc _ (by omega)).trans h.c.c9,(hc _ (by omega)).trans h.c.c10,(hc _ (by omega)).trans h.c.c11⟩,?_⟩
 have r:=h.r.aj kp (fun x hx=>by
  simp at hx;subst hx
  exact⟨h.r.bk.lo 0 x rfl,fun i hi e=>by have:=h.r.bk.ne i 0 x e rfl;omega,fun f hf e=>(h.r.fx f hf).2.2 0 (by rw[e];rfl)⟩)
 exact⟨r.kp,r.o4,r.o5,r.o8,r.o11,r.m7,r.m9,r.m10,r.len,by rw[rK];exact r.bk,by rw[rK];exact r.fx⟩
end
section
variable {w0 w w1 w2:World}{b k g cap:Nat}{src:ByteArray}{σ:Sst}{cv:List Value}
theorem My(b:Nat)(σ:Sst)(A:Addr)(n c:Nat)(cs:List (List Value)):srB b { σ with vc:=.slice (some A) n c,cs:=cs}=fun j=>if j=4 then some A.block else srB b σ j:=by
 funext i
 rcases i with _|_|_|_|_|_|_|_|i<;>simp[srB,Value.ownBlock]
theorem Sr.pushCmd(h:Sr w0 w b src k σ)(k1:Kp [] w w1)(ho:w2.ownsRow w0.heap.size 93 23 (.slice (some ⟨g,0,none⟩) (σ.cs.length+1) cap) (σ.cs.length+1) (σ.cs.flatten++cv))(hg:w1.grownBy w2 σ.vc.ownBlock)(hor:σ.vc.ownBlock=some g\/w1.heap.size<=g)(hcv:Cv cv):Sr w0 (w2.setCell ⟨b,4,none⟩ (.slice (some ⟨g,0,none⟩) (σ.cs.length+1) cap)) b src k { σ with vc:=.slice (some ⟨g,0,none⟩) (σ.cs.length+1) cap,cs:=σ.cs++[cv]}:=by
 obtain⟨v,hv⟩:∃v,v=Value.slice (some ⟨g,0,none⟩) (σ.cs.length+1) cap:=⟨_,rfl⟩;have h1:=h.aj k1;have hsz:=k1.size;have glt:g<w2.heap.size:=(aA ho (g:=g) rfl).2;have bne:∀i p,i≠4->srB b σ i=some p->w2.heap[p]? = w1.heap[p]?:=fun i p hi hp=>hg.block p (h1.r.bk.hi i p hp) (fun e=>hi (h1.r.bk.ne i 4 p hp (by first|exact e|exact e.symm)));have gne:∀i p,i≠4->srB b σ i=some p->p≠g:=fun i p hi hp e=>by
  subst e;rcases hor with q|q
  .exact hi (h1.r.bk.ne i 4 p hp q)
  .have:=h1.r.bk.hi i p hp;omega
 have kb:Kp [b] w2 (w2.setCell ⟨b,4,none⟩ v):=Kp.setCell _ _ (by simp);have bb:∀p,p<w2.heap.size->p≠b->(w2.setCell ⟨b,4,none⟩ v).heap[p]? = w2.heap[p]?:=fun p hp hn=>kb.block p hp (by simpa using hn);have hh:∀i p,0<i->i≠4->srB b σ i=some p->(w2.setCell ⟨b,4,none⟩ v).heap[p]? = w1.heap[p]?:=fun i p h0 hi hp=>
  (bb p (Qx (h1.r.bk.hi i p hp) hg.size) (fun e=>by have:=h1.r.bk.ne i 0 p hp (by rw[e];rfl);omega)).trans (bne i p hi hp)
 have hb2:w2.heap[b]? = w1.heap[b]?:=bne 0 b (by omega) rfl;have hc2:∀j,w2.cell? ⟨b,j,none⟩=w1.cell? ⟨b,j,none⟩:=fun j=>World.cell?_of_block hb2;have hf2:∀j,w2.frozen? ⟨b,j,none⟩=w1.frozen? ⟨b,j,none⟩:=fun j=>World.frozen?_of_block hb2;have hc:∀j,j≠4->(w2.setCell ⟨b,4,none⟩ v).cell? ⟨b,j,none⟩=w1.cell? ⟨b,j,none⟩:=fun j hj=>(aq _ (fun e=>by injection e with _ e2 _;exact hj e2.symm)).trans (hc2 j);have gb:g≠b:=fun e=>gne 0 b (by omega) rfl e.symm;rw[<-hv] at ho ⊢;have eB:srB b { σ with vc:=v,cs:=σ.cs++[cv]}=fun j=>if j=4 then some g else srB b σ j:=by rw[hv];exact My b σ _ _ _ _
 refine⟨⟨Qx (Qx h1.cur.lt hg.size) kb.size,h1.cur.le,h1.cur.small,(hc _ (by omega)).trans h1.cur.c0,(hc _ (by omega)).trans h1.cur.c1,fun i=>?_⟩,⟨(hc _ (by omega)).trans h1.c.c2,(hc _ (by omega)).trans h1.c.c3,aw _ ((hc2 4).trans h1.c.c4),(hc _ (by omega)).trans h1.c.c5,(hc _ (by omega)).trans h1.c.c6,(hc _ (by omega)).trans h1.c.c7,(hc _ (by omega)).trans h1.c.c8,(hc _ (by omega)).trans h1.c.c9,(hc _ (by omega)).trans h1.c.c10,(hc _ (by omega)).trans h1.c.c11⟩,⟨?_,?_,ag h1.r.o5 (fun p hp=>hh 5 p (by omega) (by omega) hp),ag h1.r.o8 (fun p hp=>hh 6 p (by omega) (by omega) hp),ag h1.r.o11 (fun p hp=>hh 7 p (by omega) (by omega) hp),(hh 1 _ (by omega) (by omega) rfl).trans h1.r.m7,(hh 2 _ (by omega) (by omega) rfl).trans h1.r.m9,(hh 3 _ (by omega) (by omega) rfl).trans h1.r.m10,?_,?_,?_⟩⟩
 .have e1:(w2.setCell ⟨b,4,none⟩ v).frozen? ⟨b,i,none⟩=w2.frozen? ⟨b,i,none⟩:=by simp
  rw[e1,hf2];exact h1.cur.free i
 .refine⟨kb.os.trans (hg.os.trans h1.r.kp.os),kb.tape.trans (hg.tape.trans h1.r.kp.tape),kb.output.trans (hg.output.trans h1.r.kp.output),QC h1.r.kp.size (QC hg.size kb.size),fun j hj _=>?_⟩;have hj1:j<w1.heap.size:=Qx hj h1.r.kp.size;refine(bb j (Qx hj1 hg.size) (fun e=>?_)).trans ((hg.block j hj1 (fun e=>?_)).trans (h1.r.kp.block j hj (by simp)))
  .have:=h1.r.bk.lo 0 b rfl;omega
  .have:=h1.r.bk.lo 4 j (by first|exact e|exact e.symm);omega
 .have ho2:=ag (w':=w2.setCell ⟨b,4,none⟩ v) ho (fun p hp=>by
   rw[hv] at hp;have:g=p:=by simpa[Value.ownBlock] using hp
   subst this
   exact bb g glt gb)
  rw[Qy,List.flatten_append];simpa using ho2
 .intro c hm;rcases List.mem_append.1 hm with q|q
  .exact h1.r.len c q
  .rw[List.mem_singleton.1 q];exact⟨hcv.len,hcv.one⟩
 .rw[eB];refine h1.r.bk.upd 4 g (QC hg.size kb.size) h1.r.kp.size ?_;rcases hor with q|q
  .exact .inl q
  .exact .inr ⟨q,Qx glt kb.size⟩
 .intro f hm;obtain⟨f1,f2,f3⟩:=h1.r.fx f hm;have flt:=aN f1;have fg:f.1≠g:=fun e=>by
   rcases hor with q|q
   .exact f3 4 (by rw[e];exact q)
   .omega
  refine⟨(bb f.1 (Qx flt hg.size) (fun e=>f3 0 (by rw[e];rfl))).trans ((hg.block f.1 flt (fun e=>f3 4 (by first|exact e|exact e.symm))).trans f1),f2,fun i=>?_⟩;rw[eB];show(if i=4 then some g else srB b σ i)≠_;split
  .intro e;injection e with e;exact fg e.symm
  .exact f3 i
end
