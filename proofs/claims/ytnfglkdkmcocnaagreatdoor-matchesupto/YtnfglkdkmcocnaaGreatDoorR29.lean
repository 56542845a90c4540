import Derived.Test.YtnfglkdkmcocnaaGreatDoorR28
import Derived.Test.YtnfglkdkmcocnaaGreatDoorR26
set_option maxRecDepth 100000
set_option maxHeartbeats 16000000
set_option linter.all false
namespace Go.Proofs.YtnfglkdkmcocnaaGreatDoor
open Go.RowKit
structure Sv where
 kind:Nat
 set:Nat→Bool
 num:Nat
 x:Nat
 y:Nat
 deep:Nat
def svC (s:Sv):List Value:=
 .int .i64 s.kind::(((List.range 256).map fun i=>Value.bool (s.set i))++[.int .i64 s.num,.int .i64 s.x,.int .i64 s.y,.int .i64 s.deep])
theorem svC_len (s:Sv):(svC s).length=261:=by simp [svC]
theorem svC_one (s:Sv):∀ u∈svC s,u.oneCell'=true:=by
 intro u hu
 simp only [svC,List.mem_cons,List.mem_append,List.mem_map,List.not_mem_nil,or_false] at hu
 rcases hu with rfl | ⟨i,_,rfl⟩ | rfl | rfl | rfl | rfl <;> rfl
theorem svC_at (s:Sv):(svC s)[0]? = some (.int .i64 s.kind)∧(∀ i,i < 256→(svC s)[1+i]? = some (.bool (s.set i)))∧(svC s)[257]? = some (.int .i64 s.num)∧(svC s)[258]? = some (.int .i64 s.x)∧(svC s)[259]? = some (.int .i64 s.y)∧(svC s)[260]? = some (.int .i64 s.deep):=by
 have e:∀ j,(svC s)[j+1]? = (((List.range 256).map fun i=>Value.bool (s.set i))++[.int .i64 s.num,.int .i64 s.x,.int .i64 s.y,.int .i64 s.deep])[j]?:=fun j=>by rw [svC,List.getElem?_cons_succ]
 have r:∀ j,256≤j→(((List.range 256).map fun i=>Value.bool (s.set i))++[.int .i64 s.num,.int .i64 s.x,.int .i64 s.y,.int .i64 s.deep])[j]? = [Value.int .i64 s.num,.int .i64 s.x,.int .i64 s.y,.int .i64 s.deep][j - 256]?:=fun j hj=>by
  rw [List.getElem?_append_right (by simpa using hj)];simp
 refine ⟨rfl,fun i hi=>?_,?_,?_,?_,?_⟩
 ·rw [Nat.add_comm,e,List.getElem?_append_left (by simpa using hi),List.getElem?_map,List.getElem?_range hi];rfl
 ·rw [e 256,r 256 (by omega)];rfl
 ·rw [e 257,r 257 (by omega)];rfl
 ·rw [e 258,r 258 (by omega)];rfl
 ·rw [e 259,r 259 (by omega)];rfl
def flatS (l:List Sv):List Value:=l.flatMap svC
theorem flatS_snoc (l:List Sv) (p:Sv):flatS (l++[p])=flatS l++svC p:=by simp [flatS]
theorem flatS_at:∀ (l:List Sv) (i:Nat) (p:Sv),l[i]? = some p→∀ j,j < 261→(flatS l)[i * 261+j]? = (svC p)[j]?
 | p::l,0,q,h,j,hj=>by
  cases h
  show (svC p++flatS l)[0 * 261+j]? = _
  rw [Nat.zero_mul,Nat.zero_add,List.getElem?_append_left (by rw [svC_len];exact hj)]
 | p::l,i+1,q,h,j,hj=>by
  have ih:=flatS_at l i q (by simpa using h) j hj
  show (svC p++flatS l)[(i+1) * 261+j]? = _
  rw [List.getElem?_append_right (by rw [svC_len];omega),svC_len,show (i+1) * 261+j - 261=i * 261+j by omega]
  exact ih
abbrev Os (w:World) (B:Nat) (ov:Value) (ss:List Sv):Prop:=w.ownsRow B 186 261 ov ss.length (flatS ss)
def SvI (s:Sv) (i:In):Prop:=match i.kind with
 | 0=>s.kind=1∧(∀ c,c < 256→s.set c=i.m c)∧s.x=i.nx∧s.deep=i.dp
 | 1=>s.kind=2∧s.x=i.nx∧s.deep=i.dp
 | 2=>s.kind=3∧s.x=i.nx∧s.deep=i.dp
 | 3=>s.kind=12∧s.num=i.sl∧s.x=i.nx∧s.deep=i.dp
 | 4=>s.kind=11∧s.x=i.nx∧s.y=i.ot∧s.deep=i.dp
 | 5=>s.kind=14∧s.x=i.nx∧s.deep=i.dp+1
 | 7=>s.kind=11∧s.x=i.nx∧s.y=i.nx∧s.deep=i.dp
 | _=>s.kind=13∧s.deep=i.dp
structure SvL (ss:List Sv) (is:List In):Prop where
 len:ss.length=is.length
 at_:∀ (j:Nat) s i,ss[j]? = some s→is[j]? = some i→SvI s i
theorem SvL.nil:SvL [] []:=⟨rfl,fun j s i h=>by simp at h⟩
theorem SvL.app {ss ss':List Sv} {is is':List In} (h:SvL ss is) (h':SvL ss' is'):SvL (ss++ss') (is++is'):=by
 refine ⟨by rw [List.length_append,List.length_append,h.len,h'.len],fun j s i h1 h2=>?_⟩
 by_cases hj:j < ss.length
 ·rw [List.getElem?_append_left hj] at h1
  rw [List.getElem?_append_left (by rw [←h.len];exact hj)] at h2
  exact h.at_ j s i h1 h2
 ·rw [List.getElem?_append_right (by omega)] at h1
  rw [List.getElem?_append_right (by rw [←h.len];omega),←h.len] at h2
  exact h'.at_ _ s i h1 h2
theorem SvL.one {s:Sv} {i:In} (h:SvI s i):SvL [s] [i]:=⟨rfl,fun j s' i' h1 h2=>by
 match j,h1,h2 with
 | 0,h1,h2=>cases h1;cases h2;exact h⟩
theorem step_parts:∃ i z,Tryz.prog.info? 186=some i∧i.zero=some z∧i.size=261∧i.bytes=296∧z.cells.size=261:=by
 have h:(Tryz.prog.info? 186).map (fun i=>(i.size,i.bytes,i.zero.map (·.cells.size)))=some (261,296,some 261):=by kernel_rfl
 cases e:Tryz.prog.info? 186 with
 | none=>rw [e] at h;cases h
 | some i=>
  rw [e] at h
  simp only [Option.map_some,Option.some.injEq,Prod.mk.injEq] at h
  obtain ⟨h1,h2,h3⟩:=h
  cases ez:i.zero with
  | none=>rw [ez] at h3;cases h3
  | some z=>
   rw [ez] at h3
   exact ⟨i,z,rfl,ez,h1,h2,Option.some.inj h3⟩
abbrev setC (f:Nat→Bool):List Value:=(List.range 256).map fun i=>Value.bool (f i)
theorem built_leaf (kd x d:Int) (f:Nat→Bool):Tryz.prog.built 186 [(0,.int .i64 kd),(1,.agg (setC f).toArray),(3,.int .i64 x),(5,.int .i64 d)]=some (Value.int .i64 kd::(setC f++[.int .i64 0,.int .i64 x,.int .i64 0,.int .i64 d])).toArray:=by kernel_rfl
theorem built_mark (n x:Int):Tryz.prog.built 186 [(0,.int .i64 12),(2,.int .i64 n),(3,.int .i64 x)]=some (Value.int .i64 12::(setC noBytes++[.int .i64 n,.int .i64 x,.int .i64 0,.int .i64 0])).toArray:=by kernel_rfl
theorem built_fork (x:Int):Tryz.prog.built 186 [(0,.int .i64 11),(3,.int .i64 x)]=some (Value.int .i64 11::(setC noBytes++[.int .i64 0,.int .i64 x,.int .i64 0,.int .i64 0])).toArray:=by kernel_rfl
theorem built_fork0:Tryz.prog.built 186 [(0,.int .i64 11)]=some (Value.int .i64 11::(setC noBytes++[.int .i64 0,.int .i64 0,.int .i64 0,.int .i64 0])).toArray:=by kernel_rfl
theorem built_turn (x d:Int):Tryz.prog.built 186 [(0,.int .i64 14),(3,.int .i64 x),(5,.int .i64 d)]=some (Value.int .i64 14::(setC noBytes++[.int .i64 0,.int .i64 x,.int .i64 0,.int .i64 d])).toArray:=by kernel_rfl
theorem built_done:Tryz.prog.built 186 [(0,.int .i64 13)]=some (Value.int .i64 13::(setC noBytes++[.int .i64 0,.int .i64 0,.int .i64 0,.int .i64 0])).toArray:=by kernel_rfl
section
variable {w0 w w' w1:World} {B b q:Nat} {src:ByteArray} {k g:Nat} {bad:Int} {v v' v1:Value} {N:List Nw}
def StO (w:World) (B:Nat) (ov:Value) (ss:List Sv) (is:List In) (e:Ending) (w':World):Prop:=
 ∃ ov' ss',e=.returned ov'∧Os w' B ov' (ss++ss')∧SvL ss' is∧Kp ov.ownBlock.toList w w'∧∀ g,ov'.ownBlock=some g→ov.ownBlock=some g∨w.heap.size≤g
theorem Os.form {ov:Value} {ss:List Sv} (h:Os w B ov ss):∃ a c,ov=.slice a ss.length c:=by
 rcases h.2 with ⟨q1,q2⟩ | ⟨gb,c,cur,q1,_⟩
 ·exact ⟨none,0,by rw [q1,q2]⟩
 ·exact ⟨_,c,q1⟩
theorem Os.snoc {ov:Value} {ss:List Sv} {s:Sv} (h:w.ownsRow B 186 261 ov (ss.length+1) (flatS ss++svC s)):Os w B ov (ss++[s]):=by
 show World.ownsRow _ _ _ _ _ (ss++[s]).length (flatS (ss++[s]))
 rw [List.length_append,flatS_snoc];exact h
theorem wpList_bld {P:Program} {ops:Array Oper} {rest:List Oper} {o:Oper} {a:Act} {Q:Exit→Act→World→Prop} (hg:o.guard=none) (t:TypeId) (xs:List (Nat×Operand)) (ho:o.op=.build t xs.toArray) (vs:List (Nat×Value)) (cells:Array Value) (hv:(xs.map fun p=>(p.1,a.eval p.2))=vs) (hb:P.built t vs=some cells)
  (h:wpList P ops Q rest (a.put o.dst (.agg cells)) w):wpList P ops Q (o::rest) a w:=by
 refine wpList_buildTo hg t xs.toArray ho o.dst rfl cells ?_ h
 rw [List.map_toArray,←hb,←hv]
theorem Tryz.szSet:(Tryz.prog.info? 184).map (·.size)=some 256:=by kernel_rfl
theorem steps_leaf {i d:Nat} {p:Nw} {ov:Value} {ss:List Sv} (hP:Ps w0 B b q src k g bad v N) (k0:Kp [] w0 w) (hi:N[i]? = some p) (hN:N.length≤1000) (o:Os w w0.heap.size ov ss) (hl:ss.length≤100000) (hd:d≤100000) {is:List In} (hk:p.1.kind=1∨p.1.kind=2∨p.1.kind=3) (hS:SvL [⟨p.1.kind,p.1.set,0,ss.length+1,0,d⟩] is) :
  Calls Tryz.prog 70 #[.pointer (some ⟨q,0,none⟩),ov,.int .i64 (i:Nat),.int .i64 (d:Nat)] w (StO w w0.heap.size ov ss is):=by
 obtain ⟨t0,zt,hj,hz0,hz1,hz2,hz3⟩:=step_parts
 have HI:=hid (And.intro hj (And.intro hz0 (And.intro hz1 (And.intro hz2 hz3))))
 clear hj hz0 hz1 hz2 hz3
 have hPw:=hP.keep k0
 obtain ⟨gb,cg,hv,hlt,hcg,hcell⟩:=hPw.nodes hi
 obtain ⟨cn,hcn⟩:∃ cn,cn=ndC p.1 p.2:=⟨_,rfl⟩
 have hcl:cn.length=262:=by rw [hcn];exact ndC_len _ _
 have hc1:∀ u∈cn,u.oneCell'=true:=by rw [hcn];exact ndC_one _ (hPw.kd p (List.mem_of_getElem? hi)).one
 have RG:Hid (w.rangeAt gb (i * 262) cn):=hid (fun j u hu=>hcell j u (by rw [←hcl];exact (List.getElem?_eq_some_iff.1 hu).1) (by rw [←hcn];exact hu))
 have q0:=hPw.q0
 rw [hv] at q0
 have qi:(i:Int) < (N.length:Int):=by omega
 have qi0:(0:Int)≤(i:Int):=by omega
 have hA:=ndC_at p.1 p.2
 rw [←hcn] at hA
 have HA:=hid (And.intro hA hcn)
 obtain ⟨xb,hxb⟩:∃ xb,xb=w.heap.size:=⟨_,rfl⟩
 obtain ⟨oa,oc,hof⟩:=o.form
 have HO:=hid (And.intro o (And.intro k0 hP))
 subst hof
 clear hcell hP hPw hi hv hA hcn o
 go_enter Tryz.func70,Tryz.ntmps70
 go_upto_region 2 with (first | (show wpList _ _ _ (⟨_,.load 192 _,_,_,_,_⟩::_) _ _;refine wpList_load_mid rfl 192 (.tmp 25) rfl gb (i * 262) rfl cn _ RG.out Tryz.underlying192 rfl (by rw [hcl];exact Tryz.szNodeR) ?_) | (show wpList _ _ _ (⟨_,.store 192 _ _,_,_,_,_⟩::_) _ _;refine newVarR (w1:=w) rfl 192 (.tmp 9) (.tmp 26) rfl Tryz.zeroCells192.toList 192 cn rfl rfl (by rw [hcl];kernel_rfl) (by rw [hcl];exact Tryz.szNodeR) hc1 ?_;intro wA bA kA))
 rw [←hxb] at bA ⊢
 have HB:=hid (And.intro bA (And.intro kA hxb))
 have c0:=bA.at_ 0 _ HA.out.1.1
 clear bA kA hxb RG q0 qi qi0
 obtain ⟨lx,hlx⟩:∃ lx,lx=ss.length+1:=⟨_,rfl⟩
 have HS:=hid hS
 clear hS
 have RS:Hid (wA.rangeAt xb 1 (setC p.1.set)):=hid (fun j u hu=>by
  have hj:j < 256:=by have:=(List.getElem?_eq_some_iff.1 hu).1;simpa using this
  have e:u=.bool (p.1.set j):=by rw [List.getElem?_map,List.getElem?_range hj] at hu;cases hu;rfl
  rw [e]
  exact HB.out.1.at_ (1+j) _ (HA.out.1.2.1 j hj))
 obtain ⟨cs,hcs⟩:∃ cs,cs=setC p.1.set:=⟨_,rfl⟩
 have hcsl:cs.length=256:=by rw [hcs];simp
 have hw1:IntKind.i64.wrap ((ss.length:Int)+1)=(lx:Int):=by rw [hlx];exact wrap_i64_succ ss.length (ss.length+1) rfl (by omega)
 have HLX:=hid hlx
 clear hlx
 rcases hk with hkk | hkk | hkk
 ·rw [hkk] at c0 HS
  obtain ⟨sv,hsv⟩:∃ sv:List Value,sv=svC ⟨1,p.1.set,0,lx,0,d⟩:=⟨_,rfl⟩
  have HBL:Hid (Tryz.prog.built 186 [(0,.int .i64 1),(1,.agg cs.toArray),(3,.int .i64 (lx:Int)),(5,.int .i64 (d:Int))]=some sv.toArray):=hid (by
   rw [hsv,hcs]
   exact built_leaf 1 (lx:Int) (d:Int) p.1.set)
  have hsl:sv.length=261:=by rw [hsv];exact svC_len _
  have hs1:∀ u∈sv,u.oneCell'=true:=by rw [hsv];exact svC_one _
  rw [←hcs] at RS
  have HSV:=hid hsv
  have ka:=Kp.alloc [] wA (.cells sv.toArray 186)
  have OWN:Hid ((wA.alloc (.cells sv.toArray 186)).ownsRow w0.heap.size 186 261 (.slice oa ss.length oc) ss.length (flatS ss)):=hid (own_kp HO.out.1 (HB.out.2.1.trans ka) (by simp))
  have HSZ:Hid (w0.heap.size≤(wA.alloc (.cells sv.toArray 186)).heap.size):=hid (Nat.le_trans HO.out.2.1.size (HB.out.2.1.trans ka).size)
  clear hsv hcs ka hkk
  go_wp2_with (first | (show wpList _ _ _ (⟨_,.build 186 _,_,_,_,_⟩::_) _ _;refine wpList_bld rfl 186 [(0,.tmp 35),(1,.tmp 37),(3,.tmp 40),(5,.tmp 41)] rfl _ sv.toArray rfl HBL.out ?_) | (show wpList _ _ _ (⟨_,.load 184 _,_,_,_,_⟩::_) _ _;refine wpList_load_mid rfl 184 (.tmp 36) rfl xb 1 rfl cs _ RS.out Tryz.underlying184 rfl (by rw [hcsl];exact Tryz.szSet) ?_) | (show wpList _ _ _ (⟨_,.buildSlice _ _ _,_,_,_,_⟩::_) _ _;refine wpList_one rfl 80 186 (.tmp 42) rfl sv t0 zt 261 rfl Tryz.underlying80 HI.out.1 HI.out.2.1 HI.out.2.2.1 HI.out.2.2.2.2 hsl (by decide) (by decide) ?_) | (at_builtin;refine wpList_app rfl _ _ 80 rfl w0.heap.size 186 t0 zt 261 296 Tryz.underlying80 HI.out.1 HI.out.2.1 HI.out.2.2.1 HI.out.2.2.2.1 HI.out.2.2.2.2 (by decide) (.slice oa ss.length oc) ss.length (flatS ss) rfl OWN.out ⟨wA.heap.size,0,none⟩ 1 1 sv rfl (by rw [hsl]) (fun j u hu=>by rw [Addr.add_mid,Nat.zero_add];exact (Bl.alloc wA sv 186).at_ j u hu) hs1 (by unfold maxLen;omega) (by omega) HSZ.out (by omega) ?_;intro gb2 cap w8 ho hgr hor))
  go_ret
  have ka:=HB.out.2.1.trans (Kp.alloc [] wA (.cells sv.toArray 186))
  rw [HSV.out,HLX.out] at ho
  refine ⟨_,_,rfl,Os.snoc ho,HS.out,(ka.mono (by simp)).trans (kp_grownR hgr (by simp)),fun x hx=>?_⟩
  have e:gb2=x:=Option.some.inj hx
  subst e
  rcases hor with z | z
  ·exact .inl z
  ·exact .inr (Nat.le_trans ka.size z)
 ·rw [hkk] at c0 HS
  obtain ⟨sv,hsv⟩:∃ sv:List Value,sv=svC ⟨2,p.1.set,0,lx,0,d⟩:=⟨_,rfl⟩
  have HBL:Hid (Tryz.prog.built 186 [(0,.int .i64 2),(1,.agg cs.toArray),(3,.int .i64 (lx:Int)),(5,.int .i64 (d:Int))]=some sv.toArray):=hid (by
   rw [hsv,hcs]
   exact built_leaf 2 (lx:Int) (d:Int) p.1.set)
  have hsl:sv.length=261:=by rw [hsv];exact svC_len _
  have hs1:∀ u∈sv,u.oneCell'=true:=by rw [hsv];exact svC_one _
  rw [←hcs] at RS
  have HSV:=hid hsv
  have ka:=Kp.alloc [] wA (.cells sv.toArray 186)
  have OWN:Hid ((wA.alloc (.cells sv.toArray 186)).ownsRow w0.heap.size 186 261 (.slice oa ss.length oc) ss.length (flatS ss)):=hid (own_kp HO.out.1 (HB.out.2.1.trans ka) (by simp))
  have HSZ:Hid (w0.heap.size≤(wA.alloc (.cells sv.toArray 186)).heap.size):=hid (Nat.le_trans HO.out.2.1.size (HB.out.2.1.trans ka).size)
  clear hsv hcs ka hkk
  go_wp2_with (first | (show wpList _ _ _ (⟨_,.build 186 _,_,_,_,_⟩::_) _ _;refine wpList_bld rfl 186 [(0,.tmp 35),(1,.tmp 37),(3,.tmp 40),(5,.tmp 41)] rfl _ sv.toArray rfl HBL.out ?_) | (show wpList _ _ _ (⟨_,.load 184 _,_,_,_,_⟩::_) _ _;refine wpList_load_mid rfl 184 (.tmp 36) rfl xb 1 rfl cs _ RS.out Tryz.underlying184 rfl (by rw [hcsl];exact Tryz.szSet) ?_) | (show wpList _ _ _ (⟨_,.buildSlice _ _ _,_,_,_,_⟩::_) _ _;refine wpList_one rfl 80 186 (.tmp 42) rfl sv t0 zt 261 rfl Tryz.underlying80 HI.out.1 HI.out.2.1 HI.out.2.2.1 HI.out.2.2.2.2 hsl (by decide) (by decide) ?_) | (at_builtin;refine wpList_app rfl _ _ 80 rfl w0.heap.size 186 t0 zt 261 296 Tryz.underlying80 HI.out.1 HI.out.2.1 HI.out.2.2.1 HI.out.2.2.2.1 HI.out.2.2.2.2 (by decide) (.slice oa ss.length oc) ss.length (flatS ss) rfl OWN.out ⟨wA.heap.size,0,none⟩ 1 1 sv rfl (by rw [hsl]) (fun j u hu=>by rw [Addr.add_mid,Nat.zero_add];exact (Bl.alloc wA sv 186).at_ j u hu) hs1 (by unfold maxLen;omega) (by omega) HSZ.out (by omega) ?_;intro gb2 cap w8 ho hgr hor))
  go_ret
  have ka:=HB.out.2.1.trans (Kp.alloc [] wA (.cells sv.toArray 186))
  rw [HSV.out,HLX.out] at ho
  refine ⟨_,_,rfl,Os.snoc ho,HS.out,(ka.mono (by simp)).trans (kp_grownR hgr (by simp)),fun x hx=>?_⟩
  have e:gb2=x:=Option.some.inj hx
  subst e
  rcases hor with z | z
  ·exact .inl z
  ·exact .inr (Nat.le_trans ka.size z)
 ·rw [hkk] at c0 HS
  obtain ⟨sv,hsv⟩:∃ sv:List Value,sv=svC ⟨3,p.1.set,0,lx,0,d⟩:=⟨_,rfl⟩
  have HBL:Hid (Tryz.prog.built 186 [(0,.int .i64 3),(1,.agg cs.toArray),(3,.int .i64 (lx:Int)),(5,.int .i64 (d:Int))]=some sv.toArray):=hid (by
   rw [hsv,hcs]
   exact built_leaf 3 (lx:Int) (d:Int) p.1.set)
  have hsl:sv.length=261:=by rw [hsv];exact svC_len _
  have hs1:∀ u∈sv,u.oneCell'=true:=by rw [hsv];exact svC_one _
  rw [←hcs] at RS
  have HSV:=hid hsv
  have ka:=Kp.alloc [] wA (.cells sv.toArray 186)
  have OWN:Hid ((wA.alloc (.cells sv.toArray 186)).ownsRow w0.heap.size 186 261 (.slice oa ss.length oc) ss.length (flatS ss)):=hid (own_kp HO.out.1 (HB.out.2.1.trans ka) (by simp))
  have HSZ:Hid (w0.heap.size≤(wA.alloc (.cells sv.toArray 186)).heap.size):=hid (Nat.le_trans HO.out.2.1.size (HB.out.2.1.trans ka).size)
  clear hsv hcs ka hkk
  go_wp2_with (first | (show wpList _ _ _ (⟨_,.build 186 _,_,_,_,_⟩::_) _ _;refine wpList_bld rfl 186 [(0,.tmp 35),(1,.tmp 37),(3,.tmp 40),(5,.tmp 41)] rfl _ sv.toArray rfl HBL.out ?_) | (show wpList _ _ _ (⟨_,.load 184 _,_,_,_,_⟩::_) _ _;refine wpList_load_mid rfl 184 (.tmp 36) rfl xb 1 rfl cs _ RS.out Tryz.underlying184 rfl (by rw [hcsl];exact Tryz.szSet) ?_) | (show wpList _ _ _ (⟨_,.buildSlice _ _ _,_,_,_,_⟩::_) _ _;refine wpList_one rfl 80 186 (.tmp 42) rfl sv t0 zt 261 rfl Tryz.underlying80 HI.out.1 HI.out.2.1 HI.out.2.2.1 HI.out.2.2.2.2 hsl (by decide) (by decide) ?_) | (at_builtin;refine wpList_app rfl _ _ 80 rfl w0.heap.size 186 t0 zt 261 296 Tryz.underlying80 HI.out.1 HI.out.2.1 HI.out.2.2.1 HI.out.2.2.2.1 HI.out.2.2.2.2 (by decide) (.slice oa ss.length oc) ss.length (flatS ss) rfl OWN.out ⟨wA.heap.size,0,none⟩ 1 1 sv rfl (by rw [hsl]) (fun j u hu=>by rw [Addr.add_mid,Nat.zero_add];exact (Bl.alloc wA sv 186).at_ j u hu) hs1 (by unfold maxLen;omega) (by omega) HSZ.out (by omega) ?_;intro gb2 cap w8 ho hgr hor))
  go_ret
  have ka:=HB.out.2.1.trans (Kp.alloc [] wA (.cells sv.toArray 186))
  rw [HSV.out,HLX.out] at ho
  refine ⟨_,_,rfl,Os.snoc ho,HS.out,(ka.mono (by simp)).trans (kp_grownR hgr (by simp)),fun x hx=>?_⟩
  have e:gb2=x:=Option.some.inj hx
  subst e
  rcases hor with z | z
  ·exact .inl z
  ·exact .inr (Nat.le_trans ka.size z)
end
def Mng (n:Nat) (V:Rt):Prop:=∀ i p,i≤n→p∈V i→i≤p.1∧p.1≤n
abbrev ddR (V:Rt):Nat→List (Nat×Zt):=fun i=>ddT (V i)
section
variable {n:Nat} {V U:Rt}
theorem Mng.id:Mng n vId:=fun i p hi hp=>by rw [List.mem_singleton.1 hp];exact ⟨Nat.le_refl _,hi⟩
theorem Mng.seq (hV:Mng n V) (hU:Mng n U):Mng n (vSeq V U):=fun i p hi hp=>by
 obtain ⟨r,hr,hp⟩:=List.mem_flatMap.1 hp
 obtain ⟨s,hs,rfl⟩:=List.mem_map.1 hp
 have h1:=hV i r hi hr
 have h2:=hU r.1 s h1.2 hs
 exact ⟨by show i≤s.1;omega,h2.2⟩
theorem Mng.or (hV:Mng n V) (hU:Mng n U):Mng n (vOr V U):=fun i p hi hp=>by
 rcases List.mem_append.1 hp with h | h
 ·exact hV i p hi h
 ·exact hU i p hi h
theorem Mng.dd (hV:Mng n V) {i:Nat} {p:Nat×Zt} (hi:i≤n) (hp:p∈ddR V i):i≤p.1∧p.1≤n:=hV i p hi (frs_sub _ hp)
theorem Mng.len (hV:Mng n V) {i:Nat} (hi:i≤n):(ddR V i).length≤n+1:=dd_len fun p hp=>(hV i p hi hp).2
theorem Mng.up (hV:Mng n V):∀ k,Mng n (vUp V k)
 | 0=>Mng.id
 | k+1=>(hV.seq (Mng.up hV k)).or Mng.id
theorem Mng.times (hV:Mng n V) (hU:Mng n U):∀ k,Mng n (vTimes V k U)
 | 0=>hU
 | k+1=>hV.seq (Mng.times hV hU k)
theorem Mng.turns (hV:Mng n V):∀ k,Mng n (vTurns V k)
 | 0=>fun i p hi hp=>by rw [vTurns,List.mem_singleton] at hp;rw [hp];exact ⟨Nat.le_refl _,hi⟩
 | k+1=>fun i p hi hp=>by
  rw [vTurns] at hp
  rcases List.mem_append.1 hp with h | h
  ·obtain ⟨r,hr,hp⟩:=List.mem_flatMap.1 h
   obtain ⟨s,hs,rfl⟩:=List.mem_map.1 hp
   have h1:=hV i r hi (List.mem_filter.1 hr).1
   have h2:=Mng.turns hV k r.1 s h1.2 hs
   exact ⟨by show i≤s.1;omega,h2.2⟩
  ·rw [List.mem_singleton.1 h];exact ⟨Nat.le_refl _,hi⟩
theorem Mng.star {text:ByteArray} (hn:text.size=n) (hV:Mng n V):Mng n (vStar text V):=fun i p hi hp=>Mng.turns hV _ i p hi hp
theorem dd_id (i:Nat):ddR vId i=[(i,neg)]:=by simp [ddR,vId,frs]
end
section
variable {w w' w1:World} {m n:Nat}
theorem behind_v {a:Nat} {av bv:Value} {V U:Rt} (hA:Tw w m av n (ddR V)) (hU:Tw w m bv n (ddR U)) (hm:m≤w.heap.size) (hn:n≤900) (ha:a≤n) (mV:Mng n V) (mU:Mng n U) :
  Calls Tryz.prog 120 #[av,bv,.int .i64 (a:Nat),.slice none 0 0] w fun e w'=>∃ lv,e=.returned lv∧Lu w w' lv (ddR (vSeq V U) a):=by
 refine (behind_any hA hU hm hn ha (by have:=mV.len ha;omega) (fun p hp=>(mV.dd ha hp).2) (fun b hb=>⟨by have:=mU.len hb;omega,fun p hp=>(mU.dd hb hp).2⟩)).mono ?_
 rintro e w' ⟨lv,rfl,h⟩
 refine ⟨lv,rfl,?_⟩
 have e:=dd_seq V U a
 rw [show ddR (vSeq V U) a=ddT (vSeq V U a) from rfl,←e]
 exact h
def nlC (N:Nat):Array Value:=madeCells #[.slice none 0 0] N
theorem nlC_get (N i:Nat) (h:i < N):(nlC N).toList[i]? = some (.slice none 0 0):=by
 unfold nlC;rw [toList_madeCells_one,List.getElem?_replicate,if_pos h]
theorem make_table (w:World) (N:Nat) (h:N≤1000):(Instr.makeSlice 117 (.int .i64 (N:Int)) (.int .i64 (N:Int))).run Tryz.prog w=.ok (.slice (some ⟨w.heap.size,0,none⟩) N N) (w.alloc (.cells (nlC N) 194)):=by
 obtain ⟨i,hi,hz0,hz1,hz2⟩:=info_parts Tryz.infoWs
 have:=run_makeSlice (P:=Tryz.prog) w 117 194 i (.slice none 0 0) Tryz.underlying117 hi hz0 .i64 .i64 N N (by omega) (by omega) (by rw [hz1];omega) (by rw [hz2];omega) (by omega)
 rw [hz1] at this
 simpa [nlC,Value.cells] using this
theorem make_table1 (w:World) (n:Nat) (h:n≤900):(Instr.makeSlice 117 (.int .i64 ((n:Int)+1)) (.int .i64 ((n:Int)+1))).run Tryz.prog w=.ok (.slice (some ⟨w.heap.size,0,none⟩) (n+1) (n+1)) (w.alloc (.cells (nlC (n+1)) 194)):=make_table w (n+1) (by omega)
theorem Tu.make (w:World) (n:Nat):Tu (w.alloc (.cells (nlC (n+1)) 194)) w.heap.size (w.heap.size+1) w.heap.size (n+1) n (fun _=>[]):=by
 have B:=Bl.alloc w (nlC (n+1)).toList 194
 have e:(nlC (n+1)).toList.toArray=nlC (n+1):=by simp
 rw [e] at B
 exact ⟨Nat.le_refl _,Nat.lt_succ_self _,by simp,Nat.le_refl _,B.free,fun a ha=>⟨.slice none 0 0,B.at_ a _ (nlC_get (n+1) a (by omega)),.inl ⟨rfl,rfl⟩,fun e=>by cases e⟩⟩
def upto (a:Nat) (T S:Nat→List (Nat×Zt)):Nat→List (Nat×Zt):=fun x=>if x < a then T x else S x
theorem upto_step {a:Nat} {T S:Nat→List (Nat×Zt)} (x:Nat):updT (upto a T S) a (T a) x=upto (a+1) T S x:=by
 unfold updT upto
 by_cases e:x=a
 ·rw [if_pos e,if_pos (by omega),e]
 ·rw [if_neg e]
  by_cases h:x < a
  ·rw [if_pos h,if_pos (by omega)]
  ·rw [if_neg h,if_neg (by omega)]
theorem Tu.next {W nb c a:Nat} {T:Nat→List (Nat×Zt)} {lv:Value} {w5:World} (h:Tu w W w.heap.size nb c n (upto a T fun _=>[])) (ha:a≤n) (u:Lu w w5 lv (T a)) :
  Tu (w5.setCell ⟨nb,a,none⟩ lv) W w5.heap.size nb c n (upto (a+1) T fun _=>[])∧Kp [nb] w (w5.setCell ⟨nb,a,none⟩ lv):=by
 have h5:=h.keep (m':=w5.heap.size) u.kp (by simp) u.size (Nat.le_refl _)
 have ne:lv.ownBlock≠some nb:=fun e=>by have:=(u.ow.lt nb e).1;have:=h.hi;omega
 exact ⟨(h5.set ha u.ow.lw ne (Nat.le_refl _) (Nat.le_refl _)).congr fun x _=>upto_step x,(u.kp.mono (by simp)).trans (Kp.setCell (S:=[nb]) _ _ (by simp))⟩
theorem Tu.slot {W nb c a:Nat} {T:Nat→List (Nat×Zt)} (h:Tu w W m nb c n T) (ha:a≤n):(∃ lv,w.cell? ⟨nb,a,none⟩=some lv)∧w.frozen? ⟨nb,a,none⟩=false:=by
 obtain ⟨lv,e,_⟩:=h.lw a ha
 exact ⟨⟨lv,e⟩,h.free a⟩
theorem setCell_size (w:World) (a:Addr) (v:Value):(w.setCell a v).heap.size=w.heap.size:=by simp [World.setCell]
end
