import Derived.Test.YtnfglkdkmcocnaaGreatDoorR00
import Derived.Deep.RegionHeld3
import Derived.StillTail
import Derived.Great.BuildSlice
set_option maxRecDepth 100000
set_option maxHeartbeats 16000000
set_option linter.all false
namespace Go.Proofs.YtnfglkdkmcocnaaGreatDoor
open Go.RowKit
section
variable {P:Program} {md:Region.Mode} {ops:Array Oper} {Q:Exit→Act→World→Prop} {S:World→Prop} {z:Nat}
def wpAnyT (P:Program) (md:Region.Mode) (ops:Array Oper) (Q:Exit→Act→World→Prop) (S:World→Prop) (z:Nat):Nat→Array Bool→Act→World→Prop
 | 0,listed,a,w=>Region.ready md ops listed=[]∧Q .normal a w
 | fuel+1,listed,a,w=>(Region.ready md ops listed=[]→Q .normal a w) ∧
   ∀ i∈Region.ready md ops listed,wpOp P ops Q i (fun a' w'=>(i=z∨S w')∧wpAnyT P md ops Q S z fuel (listed.setIfInBounds i true) a' w') a w
theorem wpAny_of_T:∀ (fuel:Nat) (listed:Array Bool) (a:Act) (w:World),wpAnyT P md ops Q S z fuel listed a w→wpAny P md ops Q fuel listed a w
 | 0,_,_,_,h=>h
 | fuel+1,_,_,_,h=>⟨h.1,fun i hi=>wpOp_mono (fun a' w' q=>wpAny_of_T fuel _ a' w' q.2) (h.2 i hi)⟩
theorem wpAnyT_first {i:Nat} {oi:Oper} {v:Value} (hi:ops[i]? = some oi) (hsel:∀ (j:Nat) (o:Oper) cs b,ops[j]? = some o→o.op≠.select cs b)
  (hQ:∀ c a w,Q (.panic c) (a.put oi.dst v) w→Q (.panic c) a w) (hz:Region.waitsFor md ops z i=true) (fuel:Nat) :
  ∀ (listed:Array Bool) (a:Act) (w:World),
   (∀ j oj,ops[j]? = some oj→j≠i→listed.getD j true=false→(∀ e∈oj.after,Region.binds md e=true→e.on≠i)→oi.apart ops oj=true) →
   i∈Region.ready md ops listed→YieldsIf P ops S oi v a→S w →
   wpAnyT P md ops Q S z fuel (listed.setIfInBounds i true) (a.put oi.dst v) w→wpAnyT P md ops Q S z (fuel+1) listed a w:=by
 induction fuel with
 | zero=>
  intro listed a w _ hr hy hS H
  refine ⟨fun h=>(by rw [h] at hr;cases hr),fun j hj=>?_⟩
  by_cases hji:j=i
  ·subst hji;exact hy.wpOp hi hS ⟨.inr hS,H⟩
  ·have:=ready_mono hj hji
   rw [H.1] at this
   cases this
 | succ fuel ih=>
  intro listed a w hfree hr hy hS H
  refine ⟨fun h=>(by rw [h] at hr;cases hr),fun j hj=>?_⟩
  by_cases hji:j=i
  ·subst hji;exact hy.wpOp hi hS ⟨.inr hS,H⟩
  ·have h1:=H.2 j (ready_mono hj hji)
   obtain ⟨hjun,oj,hoj,hall⟩:=mem_ready.1 hj
   have hnot:∀ e∈oj.after,Region.binds md e=true→e.on≠i:=fun e he hb heq=>by
    have h1:=hall e he hb
    have h0:=(mem_ready.1 hr).1
    rw [heq] at h1
    rcases Nat.lt_or_ge i listed.size with h' | h'
    ·simp [h'] at h0 h1;rw [h0] at h1;cases h1
    ·simp [Array.getElem?_eq_none h'] at h1
   have h2:=wpOp_putIf hoj (hfree j oj hoj hji hjun hnot) (fun cs b=>hsel i oi cs b hi) (fun cs b=>hsel j oj cs b hoj) hQ hy h1
   have hjz:j≠z:=fun e=>by
    obtain ⟨oz,hoz,x,hx,hb,hon⟩:=Region.waitsFor_spec hz
    rw [e,hoz] at hoj
    have e2:=Option.some.inj hoj
    exact hnot x (e2 ▸ hx) hb hon
   have hfree':∀ k ok,ops[k]? = some ok→k≠i→(listed.setIfInBounds j true).getD k true=false →
     (∀ e∈ok.after,Region.binds md e=true→e.on≠i)→oi.apart ops ok=true:=fun k ok hk hki hun hno=>by
    refine hfree k ok hk hki ?_ hno
    by_cases hjk:j=k
    ·subst hjk;exact hjun
    ·rw [getD_set_ne true hjk] at hun;exact hun
   refine wpOp_mono (fun a' w' h3=>?_) h2
   have hS':S w':=h3.2.1.resolve_left hjz
   refine ⟨.inr hS',ih (listed.setIfInBounds j true) a' w' hfree' (ready_mono hr (Ne.symm hji)) h3.1 hS' ?_⟩
   rw [Array.setIfInBounds_comm _ _ hji]
   exact h3.2.2
theorem wpAnyT_take {i:Nat} {oi:Oper} {v:Value} {fuel:Nat} {listed:Array Bool} {a:Act} {w:World} (hi:ops[i]? = some oi)
  (hs:Region.noSelect ops=true) (hf:Region.free md ops listed i=true) (hr:(Region.ready md ops listed).contains i=true) (hz:Region.waitsFor md ops z i=true)
  (hQ:∀ c a w,Q (.panic c) (a.put oi.dst v) w→Q (.panic c) a w) (hy:YieldsIf P ops S oi v a) (hS:S w)
  (h:wpAnyT P md ops Q S z fuel (listed.setIfInBounds i true) (a.put oi.dst v) w):wpAnyT P md ops Q S z (fuel+1) listed a w:=
 wpAnyT_first hi (Region.noSelect_spec hs) hQ hz fuel listed a w (Region.free_spec hi hf) (by simpa using hr) hy hS h
def tkB (md:Region.Mode) (ops:Array Oper) (listed:Array Bool) (z i:Nat):Bool:=Region.noSelect ops && Region.free md ops listed i && (Region.ready md ops listed).contains i && Region.waitsFor md ops z i
theorem tk1 (i:Nat) {oi:Oper} {v:Value} {fuel:Nat} {listed:Array Bool} {a:Act} {w:World} (hi:ops[i]? = some oi) (hb:tkB md ops listed z i=true)
  (hQ:∀ c a w,Q (.panic c) (a.put oi.dst v) w→Q (.panic c) a w) (hy:Region.wanted oi (yielded ops a.tmps)=true∧∀ w,S w→(execOp a.eval oi).run P w=.ok (.value v) w) (hS:S w)
  (h:wpAnyT P md ops Q S z fuel (listed.setIfInBounds i true) (a.put oi.dst v) w):wpAnyT P md ops Q S z (fuel+1) listed a w:=by
 unfold tkB at hb
 simp only [Bool.and_eq_true] at hb
 exact wpAnyT_take hi hb.1.1.1 hb.1.1.2 hb.1.2 hb.2 hQ (Or.inl hy) hS h
theorem tkn {oi:Oper} {v:Value} {fuel:Nat} {listed:Array Bool} {a:Act} {w:World} (hi:ops[ops.size - (fuel+1)]? = some oi) (hb:tkB md ops listed z (ops.size - (fuel+1))=true)
  (hQ:∀ c a w,Q (.panic c) (a.put oi.dst v) w→Q (.panic c) a w) (hy:Region.wanted oi (yielded ops a.tmps)=true∧∀ w,S w→(execOp a.eval oi).run P w=.ok (.value v) w) (hS:S w)
  (h:wpAnyT P md ops Q S z fuel (listed.setIfInBounds (ops.size - (fuel+1)) true) (a.put oi.dst v) w):wpAnyT P md ops Q S z (fuel+1) listed a w:=tk1 _ hi hb hQ hy hS h
theorem wpAnyT_one {i:Nat} {o:Oper} {fuel:Nat} {listed:Array Bool} {a:Act} {w:World} (hr:Region.ready md ops listed=[i]) (ho:ops[i]? = some o)
  (h:∀ K:Act→World→Prop,Shut (∀ a' w',(i=z∨S w')→wpAnyT P md ops Q S z fuel (listed.setIfInBounds i true) a' w'→K a' w')→if Region.wanted o (yielded ops a.tmps)=true then Oper.wp P o a w K Q else K (a.put o.dst undef) w) :
  wpAnyT P md ops Q S z (fuel+1) listed a w:=by
 refine ⟨fun h0=>(by rw [hr] at h0;cases h0),fun j hj=>?_⟩
 rw [hr] at hj
 have e:=List.mem_singleton.1 hj
 subst e
 exact wpOp_step ho (fun K hK=>h K (fun a' w' h1 h2=>hK a' w' ⟨h1,h2⟩))
theorem wpAnyT_two {i j:Nat} {o o':Oper} {fuel:Nat} {listed:Array Bool} {a:Act} {w:World} (hr:Region.ready md ops listed=[i,j]) (ho:ops[i]? = some o) (ho':ops[j]? = some o')
  (h:∀ K:Act→World→Prop,Shut (∀ a' w',(i=z∨S w')→wpAnyT P md ops Q S z fuel (listed.setIfInBounds i true) a' w'→K a' w')→if Region.wanted o (yielded ops a.tmps)=true then Oper.wp P o a w K Q else K (a.put o.dst undef) w)
  (h':∀ K:Act→World→Prop,Shut (∀ a' w',(j=z∨S w')→wpAnyT P md ops Q S z fuel (listed.setIfInBounds j true) a' w'→K a' w')→if Region.wanted o' (yielded ops a.tmps)=true then Oper.wp P o' a w K Q else K (a.put o'.dst undef) w) :
  wpAnyT P md ops Q S z (fuel+1) listed a w:=by
 refine ⟨fun h0=>(by rw [hr] at h0;cases h0),fun k hk=>?_⟩
 rw [hr] at hk
 rcases List.mem_cons.1 hk with e | hk
 ·subst e;exact wpOp_step ho (fun K hK=>h K (fun a' w' h1 h2=>hK a' w' ⟨h1,h2⟩))
 ·have e:=List.mem_singleton.1 hk
  subst e
  exact wpOp_step ho' (fun K hK=>h' K (fun a' w' h1 h2=>hK a' w' ⟨h1,h2⟩))
theorem wpAnyT_done {listed:Array Bool} {a:Act} {w:World} (hr:Region.ready md ops listed=[]) (h:Q .normal a w):∀ fuel,wpAnyT P md ops Q S z fuel listed a w
 | 0=>⟨hr,h⟩
 | _+1=>⟨fun _=>h,by rw [hr];intro i hi;cases hi⟩
theorem wp_region_T {id:Nat} {a:Act} {w:World} (S:World→Prop) (z:Nat) (hm:P.follows .mixedOrders=true)
  (h:wpAnyT P .any ops Q S z ops.size (Array.replicate ops.size false) a w.drew):(Code.region id ops true).wp P Q a w:=
 wp_region_any hm (wpAny_of_T _ _ _ _ h)
end
theorem fold_set:∀ (l:List Value) (o:Nat) (z:Array Value),o+l.length≤z.size→((l.zipIdx o).foldl (fun (cs:Array Value) (p:Value×Nat)=>cs.setIfInBounds p.2 p.1) z).toList=z.toList.take o++l++z.toList.drop (o+l.length)
 | [],o,z,_=>by simp
 | v::l,o,z,h=>by
  rw [List.length_cons] at h
  rw [List.zipIdx_cons,List.foldl_cons,fold_set l (o+1) _ (by simp;omega)]
  have ho:o < z.toList.length:=by simp;omega
  rw [Array.toList_setIfInBounds,List.take_set,List.drop_set_of_lt (by omega),List.length_cons,show o+1+l.length=o+(l.length+1) by omega]
  congr 1
  rw [show v::l=[v]++l from rfl,←List.append_assoc]
  congr 1
  rw [List.take_succ_eq_append_getElem ho,List.set_append_right _ _ (by rw [List.length_take];omega)]
  congr 1
  rw [List.length_take,Nat.min_eq_left (by omega),Nat.sub_self]
  rfl
theorem fill_one {n:Nat} {z:Array Value} {cv:List Value} (h:cv.length=n) (hz:z.size=n):Instr.fill (fun i=>some (i * n,n)) z [(0,.agg cv.toArray)]=some cv.toArray:=by
 have e:=fold_set cv 0 z (by omega)
 simp only [Nat.zero_add,List.take_zero,List.nil_append] at e
 rw [List.drop_eq_nil_of_le (by simp;omega),List.append_nil] at e
 simp [Instr.fill,Value.cells,h,hz]
 apply Array.toList_inj.1
 exact e
theorem step_one {P:Program} {ops:Array Oper} {o:Oper} {a:Act} {w:World} {K:Act→World→Prop} {Q:Exit→Act→World→Prop} {E:Prop} (hg:o.guard=none) (t e:TypeId) (x:Operand) (ho:o.op=.buildSlice t 1 #[(0,x)])
  (cv:List Value) (ie:TypeInfo) (z:Value) (n:Nat) (hx:a.eval x=.agg cv.toArray) (hu:P.underlying t=some (.slice e)) (hie:P.info? e=some ie) (hz:ie.zero=some z) (hn:ie.size=n) (hzs:z.cells.size=n) (hl:cv.length=n) (h0:0 < n) (h24:n≤1000)
  (h:K (a.put o.dst (.slice (some ⟨w.heap.size,0,none⟩) 1 1)) (w.alloc (.cells cv.toArray e))):if Region.wanted o (yielded ops a.tmps)=true then Oper.wp P o a w K Q else E:=by
 have hw:Region.wanted o (yielded ops a.tmps)=true:=by simp [Region.wanted,hg]
 rw [if_pos hw]
 refine wp_buildSlice t e 1 _ ho cv.toArray ie z hu hie hz (by rw [hn];omega) (by rw [hn];omega) ?_ h
 simp only [List.map_toArray,List.map_cons,List.map_nil,hx,hn]
 exact fill_one hl (by simp)
theorem own_lower {w:World} {base B size n:Nat} {e:TypeId} {v:Value} {xs:List Value} (h:w.ownsRow base e size v n xs) (hB:B≤base):w.ownsRow B e size v n xs:=by
 refine ⟨h.1,?_⟩
 rcases h.2 with q | ⟨g,cap,cur,q1,q2,q3⟩
 ·exact .inl q
 ·exact .inr ⟨g,cap,cur,q1,Nat.le_trans hB q2,q3⟩
theorem own_form {w:World} {base size n:Nat} {e:TypeId} {v:Value} {xs:List Value} (h:w.ownsRow base e size v n xs):∃ A c,v=.slice A n c∧(A=none→n=0)∧∀ ad,A=some ad→∃ g,ad=⟨g,0,none⟩:=by
 rcases h.2 with ⟨q,q2⟩ | ⟨g,cap,cur,q1,_⟩
 ·refine ⟨none,0,by rw [q,q2],fun _=>q2,fun _ h=>?_⟩
  cases h
 ·refine ⟨some ⟨g,0,none⟩,cap,q1,fun h=>?_,fun ad h=>⟨g,?_⟩⟩
  ·cases h
  ·injection h with h;exact h.symm
theorem run_app {P:Program} {w:World} {base:Nat} {t ty e:TypeId} {i:TypeInfo} {z:Value} {size bytes:Nat} (ht:P.underlying t=some (.slice e)) (hi:P.info? e=some i) (hz:i.zero=some z)
  (hsize:i.size=size) (hby:i.bytes=bytes) (hzs:z.cells.size=size) (hsz:0 < size)
  {v:Value} {n:Nat} {xs:List Value} (hown:w.ownsRow base e size v n xs)
  {a:Addr} {m c:Nat} {news:List Value} (hl:news.length=m * size) (hnews:∀ j u,news[j]? = some u→w.cell? (a.add j)=some u) (h1:∀ u∈news,u.oneCell'=true)
  (h63:n+m≤maxLen) (hbytes:(n+m) * bytes≤140737488355328) (hbase:base≤w.heap.size) (hm:0 < m) :
  ∃ g cap w',(Builtin.append_ #[t,t] ty #[v,.slice (some a) m c]).run P w=.ok (.slice (some ⟨g,0,none⟩) (n+m) cap) w'∧w'.ownsRow base e size (.slice (some ⟨g,0,none⟩) (n+m) cap) (n+m) (xs++news)∧w.grownBy w' v.ownBlock ∧
   (v.ownBlock=some g∨w.heap.size≤g):=by
 rcases hown.2 with ⟨hv,hn⟩ | ⟨g,cap,cur,hv,hbg,hg,hnc,hcm,hcs,htake⟩
 ·subst hv;subst hn
  have hxs:xs=[]:=List.eq_nil_of_length_eq_zero (by simpa using hown.1)
  subst hxs
  obtain ⟨v',w',hrun,r1,r2,_⟩:=run_append_own (P:=P) w w.heap.size t ty e i z size bytes ht hi hz hsize hby hzs hsz (.slice none 0 0) 0 [] (World.ownsRow_nil w _ e size) a m c news hl hnews h1 h63 hbytes (Nat.le_refl _)
  rcases r1.2 with ⟨_,h0⟩ | ⟨g,cap,cur,hv',hbg,_⟩
  ·omega
  ·subst hv'
   exact ⟨g,cap,w',hrun,own_lower r1 hbase,r2,.inr hbg⟩
 ·subst hv
  by_cases hroom:n+m≤cap
  ·obtain ⟨w',hrun,r1,r2⟩:=run_append_fits (P:=P) w base t ty e i size ht hi hsize g n cap xs hown a m c news hl hnews h1 hroom
   exact ⟨g,cap,w',hrun,r1,r2,.inl rfl⟩
  ·have hcell:∀ j u,xs[j]? = some u→w.cell? ((⟨g,0,none⟩:Addr).add j)=some u:=fun j u hu=>by
    have hj:j < n * size:=by rw [←hown.1];exact (List.getElem?_eq_some_iff.1 hu).1
    rw [Addr.add_mid,Nat.zero_add,hown.cellAt j hj];exact hu
   obtain ⟨v',w',hrun,r1,r2⟩:=run_append_arg_grows (P:=P) w t ty e i z size bytes ht hi hz hsize hby hzs hsz ⟨g,0,none⟩ n cap xs hown.1 hcell a m c news hl hnews (by omega) h63 hbytes
   rcases r1.2 with ⟨_,h0⟩ | ⟨g',cap',cur',hv',hbg',_⟩
   ·omega
   ·subst hv'
    exact ⟨g',cap',w',hrun,own_lower r1 hbase,⟨r2.os,r2.tape,r2.output,r2.size,fun k hk _=>r2.block k hk (by simp)⟩,.inr hbg'⟩
theorem wpList_app {P:Program} {ops:Array Oper} {rest:List Oper} {o:Oper} {a:Act} {w:World} {Q:Exit→Act→World→Prop} (hgd:o.guard=none) (s x:Operand) (t:TypeId) (hop:o.op=Op.call { callee:=Callee.builtin Builtin.append,args:=#[s,x],argTypes:=#[t,t] })
  (base:Nat) (e:TypeId) (i:TypeInfo) (z:Value) (size bytes:Nat) (h1:P.underlying t=some (.slice e)) (h2:P.info? e=some i) (h3:i.zero=some z) (h4:i.size=size) (h5:i.bytes=bytes) (h6:z.cells.size=size) (h7:0 < size)
  (v:Value) (n:Nat) (xs:List Value) (hs:a.eval s=v) (hown:w.ownsRow base e size v n xs)
  (ad:Addr) (m c:Nat) (news:List Value) (hx:a.eval x=.slice (some ad) m c) (hn:news.length=m * size) (hc:∀ j u,news[j]? = some u→w.cell? (ad.add j)=some u) (h1c:∀ u∈news,u.oneCell'=true)
  (b1:n+m≤maxLen) (b2:(n+m) * bytes≤140737488355328) (hbase:base≤w.heap.size) (hm:0 < m)
  (h:∀ g cap w',w'.ownsRow base e size (.slice (some ⟨g,0,none⟩) (n+m) cap) (n+m) (xs++news)→w.grownBy w' v.ownBlock→(v.ownBlock=some g∨w.heap.size≤g)→wpList P ops Q rest (a.put o.dst (.slice (some ⟨g,0,none⟩) (n+m) cap)) w'):wpList P ops Q (o::rest) a w:=
 wpList_plain hgd fun _ hK=>by
  obtain ⟨g,cap,w',hrun,r1,r2,r3⟩:=run_app (P:=P) (ty:=o.type) h1 h2 h3 h4 h5 h6 h7 hown hn hc h1c b1 b2 hbase hm (c:=c)
  unfold Oper.wp
  simp [execOp,hop,resolve,invoke,builtin,hs,hx,hrun,Result.andThen]
  exact hK _ _ (h g cap w' r1 r2 r3)
theorem res_row {P:Program} {fn:Func} {p:Tmp} {ty:TypeId} (h:fn.results=#[.cell p ty]) (tmps:Array Value) (w:World) (b o:Nat) (ht:tmps.getD p undef=.pointer (some ⟨b,o,none⟩)) (cs:List Value) (d:TypeDesc)
  (hc:w.rangeAt b o cs) (hu:P.underlying ty=some d) (hd:d.isRow=true) (hi:(P.info? ty).map (·.size)=some cs.length):(results fn tmps).run P w=.ok (.agg cs.toArray) w:=by
 have hl:=run_loadVar_mid (P:=P) w b o ty cs d hc hu hd hi
 have ht':tmps[p]?.getD undef=.pointer (some ⟨b,o,none⟩):=by simpa using ht
 simp only [results,h]
 simp [ht',asAddr,hl]
theorem kp_setCells {S:List Nat} {b:Nat} (hb:b∈S):∀ (vs:List Value) (o:Nat) (w:World),Kp S w (w.setCells b o vs)
 | [],_,_=>Kp.refl _ _
 | v::vs,o,w=>(Kp.setCell w v (p:=⟨b,o,none⟩) hb).trans (kp_setCells hb vs (o+1) _)
structure Bl (w:World) (b:Nat) (cv:List Value):Prop where
 lt:b < w.heap.size
 at_:∀ j u,cv[j]? = some u→w.cell? ⟨b,j,none⟩=some u
 free:∀ j,w.frozen? ⟨b,j,none⟩=false
theorem Bl.keep {S:List Nat} {w w':World} {b:Nat} {cv:List Value} (h:Bl w b cv) (k:Kp S w w') (hb:b∉S):Bl w' b cv:=
 ⟨Nat.lt_of_lt_of_le h.lt k.size,fun j u hu=>(k.cell (p:=⟨b,j,none⟩) h.lt hb).trans (h.at_ j u hu),fun j=>(k.frozen (p:=⟨b,j,none⟩) h.lt hb).trans (h.free j)⟩
theorem Bl.alloc (w:World) (cv:List Value) (T:TypeId):Bl (w.alloc (.cells cv.toArray T)) w.heap.size cv:=by
 have hh:(w.alloc (.cells cv.toArray T)).heap[w.heap.size]? = some (.cells cv.toArray T):=by show (w.heap.push _)[w.heap.size]? = _;simp
 refine ⟨by simp,fun j u hu=>?_,fun j=>?_⟩
 ·simp only [World.cell?,hh];simpa using hu
 ·simp only [World.frozen?,hh];simp
theorem Bl.put {w:World} {b:Nat} {cv vs:List Value} (h:Bl w b cv) (hl:vs.length=cv.length):Bl (w.setCells b 0 vs) b vs:=by
 refine ⟨Nat.lt_of_lt_of_le h.lt (kp_setCells (S:=[b]) (by simp) vs 0 w).size,fun j u hu=>?_,fun j=>by rw [World.frozen?_setCells];exact h.free j⟩
 have hj:j < vs.length:=(List.getElem?_eq_some_iff.1 hu).1
 have:=World.cell?_setCells_in b vs 0 w (fun i hi=>by
  have hi':i < cv.length:=by omega
  have:=h.at_ i cv[i] (List.getElem?_eq_getElem hi')
  rw [Nat.zero_add,this];rfl) j hj
 rw [Nat.zero_add] at this
 rw [this,←hu,List.getElem?_eq_getElem hj]
theorem Bl.set {w:World} {b:Nat} {cv:List Value} (h:Bl w b cv) (j:Nat) (v:Value) (hj:j < cv.length):Bl (w.setCell ⟨b,j,none⟩ v) b (cv.set j v):=by
 refine ⟨by simpa [World.setCell] using h.lt,fun i u hu=>?_,fun i=>by simpa using h.free i⟩
 by_cases e:i=j
 ·subst e
  rw [List.getElem?_set_self hj] at hu
  rw [cell_same _ (h.at_ i cv[i] (List.getElem?_eq_getElem hj)),hu]
 ·rw [List.getElem?_set_ne (Ne.symm e)] at hu
  rw [cell_other _ (fun q=>by injection q with _ q2 _;exact e q2.symm)]
  exact h.at_ i u hu
theorem Bl.range {w:World} {b:Nat} {cv:List Value} (h:Bl w b cv):w.rangeAt b 0 cv:=fun j u hu=>by rw [Nat.zero_add];exact h.at_ j u hu
structure Pr (w:World) (b q:Nat) (src:ByteArray) (k:Nat) (bad:Int):Prop where
 lt:b < w.heap.size
 le:k≤src.size+1
 small:src.size≤100
 c0:w.cell? ⟨b,0,none⟩=some (.string src)
 c1:w.cell? ⟨b,1,none⟩=some (.int .i64 k)
 c2:w.cell? ⟨b,2,none⟩=some (.int .i64 bad)
 c3:w.cell? ⟨b,3,none⟩=some (.pointer (some ⟨q,0,none⟩))
 free:∀ i,w.frozen? ⟨b,i,none⟩=false
theorem Pr.keep {S:List Nat} {w w':World} {b q:Nat} {src:ByteArray} {k:Nat} {bad:Int} (h:Pr w b q src k bad) (p:Kp S w w') (hn:b∉S):Pr w' b q src k bad:=
 ⟨Nat.lt_of_lt_of_le h.lt p.size,h.le,h.small,by rw [p.cell h.lt hn];exact h.c0,by rw [p.cell h.lt hn];exact h.c1,by rw [p.cell h.lt hn];exact h.c2,by rw [p.cell h.lt hn];exact h.c3,fun i=>by rw [p.frozen h.lt hn];exact h.free i⟩
section
variable {w:World} {b q:Nat} {src:ByteArray} {k:Nat} {bad:Int}
theorem Pr.goto (h:Pr w b q src k bad) (j:Nat) (hj:j≤src.size+1):Pr (w.setCell ⟨b,1,none⟩ (.int .i64 (j:Int))) b q src j bad:=
 ⟨by simpa [World.setCell] using h.lt,hj,h.small,by rw [cell_other _ (by simp)];exact h.c0,cell_same _ h.c1,by rw [cell_other _ (by simp)];exact h.c2,by rw [cell_other _ (by simp)];exact h.c3,fun i=>by simpa using h.free i⟩
theorem Pr.failed (h:Pr w b q src k bad) (z:Int):Pr (w.setCell ⟨b,2,none⟩ (.int .i64 z)) b q src k z:=
 ⟨by simpa [World.setCell] using h.lt,h.le,h.small,by rw [cell_other _ (by simp)];exact h.c0,by rw [cell_other _ (by simp)];exact h.c1,cell_same _ h.c2,by rw [cell_other _ (by simp)];exact h.c3,fun i=>by simpa using h.free i⟩
theorem Pr.drewN (h:Pr w b q src k bad) (n:Nat):Pr (w.drewN n) b q src k bad:=h.keep (Kp.drewN [] w n) (by simp)
theorem w64_byte (c:UInt8):wrap64 (c.toNat:Int)=c.toNat:=by
 have:=c.toNat_lt
 unfold wrap64;omega
def pk (s:ByteArray) (k:Nat):Int:=if h:k < s.size then ((s[k]'h).toNat:Int) else -1
theorem pk_saw (s:ByteArray) (k:Nat) {x:Int} (hx:0≤x):(pk s k == x)=saw s k x:=by
 unfold pk saw
 split
 ·rfl
 ·rw [beq_eq_false_iff_ne];omega
theorem okR_any (h:Pr w b q src k bad) {v:Bool} (hv:decide (bad < 0)=v):Calls Tryz.prog 67 #[.pointer (some ⟨b,0,none⟩)] w fun e w'=>e=.returned (.bool v)∧w'=w:=by
 have c2:=h.c2
 subst hv
 go_enter Tryz.func67,Tryz.ntmps67
 go_wp2_with fail
 go_ret
 exact ⟨rfl,rfl⟩
theorem failR_first (h:Pr w b q src k bad) (z:Nat) (hb:bad < 0):Calls Tryz.prog 68 #[.pointer (some ⟨b,0,none⟩),.int .i64 z] w fun e w'=>e=.returned (.tuple #[])∧Pr w' b q src k z∧Kp [b] w w':=by
 have c2:=h.c2
 have f2:=h.free 2
 have hb':decide (bad < 0)=true:=by simpa using hb
 go_enter Tryz.func68,Tryz.ntmps68
 go_wp2_with fail
 go_end0
 exact ⟨rfl,h.failed _,Kp.setCell _ _ (by simp)⟩
theorem failR_late (h:Pr w b q src k bad) (z:Int) (hb:¬ bad < 0):Calls Tryz.prog 68 #[.pointer (some ⟨b,0,none⟩),.int .i64 z] w fun e w'=>e=.returned (.tuple #[])∧w'=w:=by
 have c2:=h.c2
 have hb':decide (bad < 0)=false:=by simpa using hb
 go_enter Tryz.func68,Tryz.ntmps68
 go_wp2_with fail
 go_end0
 exact ⟨rfl,rfl⟩
theorem peekR_any (h:Pr w b q src k bad):Calls Tryz.prog 212 #[.pointer (some ⟨b,0,none⟩)] w fun e w'=>e=.returned (.int .i64 (pk src k))∧∃ n,w'=w.drewN n:=by
 have c0:=h.c0
 have c1:=h.c1
 by_cases hk:k < src.size
 ·have e:pk src k=((src[k]'hk).toNat:Int):=by unfold pk;rw [dif_pos hk]
  rw [e]
  have hg:decide ((src.size:Int)≤(k:Int))=false:=by simpa using hk
  go_enter Tryz.func212,Tryz.ntmps212
  go_wp2
  go_quiet (fail)
  go_wp2
  go_quiet (fail)
  go_wp2
  go_ret
  exact ⟨by simp [w64_byte],_,World.drewN_drewN _ _ _⟩
 ·have e:pk src k = -1:=by unfold pk;rw [dif_neg hk]
  rw [e]
  have hg:decide ((src.size:Int)≤(k:Int))=true:=by simpa using hk
  go_enter Tryz.func212,Tryz.ntmps212
  go_wp2
  go_quiet (fail)
  go_wp2
  go_ret
  exact ⟨rfl,_,rfl⟩
theorem takeR_no (x:Int) (h:Pr w b q src k bad) (hx:saw src k x=false):Calls Tryz.prog 116 #[.pointer (some ⟨b,0,none⟩),.int .u8 x] w fun e w'=>e=.returned (.bool false)∧∃ n,w'=w.drewN n:=by
 have c0:=h.c0
 have c1:=h.c1
 by_cases hk:k < src.size
 ·have hg:decide ((k:Int) < (src.size:Int))=true:=by simpa using hk
  have hq:(((src[k]'hk).toNat:Int) == x)=false:=by simpa [saw,hk] using hx
  clear hx
  go_enter Tryz.func116,Tryz.ntmps116
  go_wp2
  go_quiet (fail)
  go_wp2
  go_ret
  exact ⟨rfl,_,rfl⟩
 ·have hg:decide ((k:Int) < (src.size:Int))=false:=by simpa using hk
  clear hx
  go_enter Tryz.func116,Tryz.ntmps116
  go_wp2
  go_quiet (fail)
  go_wp2
  go_ret
  exact ⟨rfl,_,rfl⟩
theorem takeR_yes (x:Int) (h:Pr w b q src k bad) (hx:saw src k x=true):Calls Tryz.prog 116 #[.pointer (some ⟨b,0,none⟩),.int .u8 x] w fun e w'=>e=.returned (.bool true)∧Pr w' b q src (k+1) bad∧Kp [b] w w':=by
 have c0:=h.c0
 have c1:=h.c1
 have f1:=h.free 1
 have hk:=saw_lt hx
 have hsm:=h.small
 have hg:decide ((k:Int) < (src.size:Int))=true:=by simpa using hk
 have hq:(((src[k]'hk).toNat:Int) == x)=true:=by simpa [saw,hk] using hx
 have hw:IntKind.i64.wrap ((k:Int)+1)=((k+1:Nat):Int):=wrap_i64_succ k (k+1) rfl (by omega)
 have H:=hid (And.intro h hk)
 clear hx hsm h
 go_enter Tryz.func116,Tryz.ntmps116
 go_wp2
 go_quiet (fail)
 go_wp2
 go_ret
 obtain ⟨h,hk⟩:=H.out
 exact ⟨rfl,(h.drewN _).goto (k+1) (by omega),(Kp.drewN _ _ _).trans (Kp.setCell _ _ (by simp))⟩
def mem (c:Int) (of:ByteArray):Bool:=of.data.toList.any fun x=>((x.toNat:Int) == c)
theorem isDigit_any (c:Int):Calls Tryz.prog 248 #[.int .i64 c] w fun e w'=>e=.returned (.bool (decide (48≤c) && decide (c≤57)))∧w'=w:=by
 by_cases h1:48≤c
 ·by_cases h2:c≤57
  ·go_enter Tryz.func248,Tryz.ntmps248
   go_wp2_with fail
   go_ret
   exact ⟨by simp [h1,h2],rfl⟩
  ·go_enter Tryz.func248,Tryz.ntmps248
   go_wp2_with fail
   go_ret
   exact ⟨by simp [h1,h2],rfl⟩
 ·go_enter Tryz.func248,Tryz.ntmps248
  go_wp2_with fail
  go_ret
  exact ⟨by rw [show decide (48≤c)=false by simpa using h1];rfl,rfl⟩
end
