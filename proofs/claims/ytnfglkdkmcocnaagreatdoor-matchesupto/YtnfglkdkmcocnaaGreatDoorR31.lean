import Derived.Test.YtnfglkdkmcocnaaGreatDoorR30
set_option maxRecDepth 100000
set_option maxHeartbeats 16000000
set_option linter.all false
namespace Go.Proofs.YtnfglkdkmcocnaaGreatDoor
open Go.RowKit
section
variable {w0 w w' w1 wx wy:World} {B b q:Nat} {src:ByteArray} {k g:Nat} {bad:Int} {v v' v1 ov ox oy:Value} {N:List Nw} {ss ss':List Sv}
theorem Kp.pass {S T:List Nat} {a c:World} (h:Kp S w a) (k:Kp T a c) (hT:∀ x∈T,x∈S∨w.heap.size≤x):Kp S w c:=
 ⟨k.os.trans h.os,k.tape.trans h.tape,k.output.trans h.output,Nat.le_trans h.size k.size,fun i hi hn=>(k.block i (Nat.lt_of_lt_of_le hi h.size) fun hm=>by
   rcases hT i hm with e | e
   ·exact hn e
   ·omega).trans (h.block i hi hn)⟩
structure Gs (w:World) (B:Nat) (ov:Value) (wx:World) (ox:Value) (ss:List Sv):Prop where
 os:Os wx B ox ss
 kp:Kp ov.ownBlock.toList w wx
 own:∀ g,ox.ownBlock=some g→ov.ownBlock=some g∨w.heap.size≤g
 lo:B≤w.heap.size
theorem Gs.call {is:List In} {e:Ending} (h:Gs w B ov wx ox ss) (c:StO wx B ox ss is e wy):∃ oy ss',e=.returned oy∧SvL ss' is∧Gs w B ov wy oy (ss++ss')∧∃ a c,oy=.slice a (ss++ss').length c:=by
 obtain ⟨oy,ss',e1,e2,e3,e4,e5⟩:=c
 refine ⟨oy,ss',e1,e3,⟨e2,h.kp.pass e4 fun x hx=>?_,fun g hg=>?_,h.lo⟩,e2.form⟩
 ·rcases h.own x (by simpa using hx) with z | z
  ·exact .inl (by simp [z])
  ·exact .inr z
 ·rcases e5 g hg with z | z
  ·exact h.own g z
  ·exact .inr (Nat.le_trans h.kp.size z)
theorem Gs.push {s:Sv} {gb cap:Nat} {sv:List Value} (h:Gs w B ov wx ox ss) (hsv:sv=svC s) (ho:wy.ownsRow B 186 261 (.slice (some ⟨gb,0,none⟩) (ss.length+1) cap) (ss.length+1) (flatS ss++sv)) (hg:(wx.alloc (.cells sv.toArray 186)).grownBy wy ox.ownBlock) (hor:ox.ownBlock=some gb∨(wx.alloc (.cells sv.toArray 186)).heap.size≤gb) :
  Gs w B ov wy (.slice (some ⟨gb,0,none⟩) (ss++[s]).length cap) (ss++[s]):=by
 subst hsv
 have ka:=Kp.alloc [] wx (.cells (svC s).toArray 186)
 refine ⟨by rw [List.length_append];exact Os.snoc ho,(h.kp.pass ka (by simp)).pass (kp_grownR (S:=ox.ownBlock.toList) hg (by simp)) fun x hx=>?_,fun x hx=>?_,h.lo⟩
 ·rcases h.own x (by simpa using hx) with z | z
  ·exact .inl (by simp [z])
  ·exact .inr z
 ·have e:gb=x:=Option.some.inj hx
  subst e
  rcases hor with z | z
  ·exact h.own _ z
  ·exact .inr (Nat.le_trans (h.kp.pass ka (by simp)).size z)
theorem wpList_push {ops:Array Oper} {rest:List Oper} {o1 o2 o3:Oper} {a:Act} {Q:Exit→Act→World→Prop} (g1:o1.guard=none) (g2:o2.guard=none) (g3:o3.guard=none) (xs:List (Nat×Operand)) (h1:o1.op=.build 186 xs.toArray) (x1:Operand) (h2:o2.op=.buildSlice 80 1 #[(0,x1)]) (sa sb:Operand) (h3:o3.op=Op.call { callee:=Callee.builtin Builtin.append,args:=#[sa,sb],argTypes:=#[80,80] })
  (vs:List (Nat×Value)) (s:Sv) (hv:(xs.map fun p=>(p.1,a.eval p.2))=vs) (hb:Tryz.prog.built 186 vs=some (svC s).toArray) (e1:∀ c:Value,(a.put o1.dst c).eval x1=c) (e2:∀ c d:Value,((a.put o1.dst c).put o2.dst d).eval sb=d) (e3:∀ c d:Value,((a.put o1.dst c).put o2.dst d).eval sa=ox) (h:Gs w B ov wx ox ss) (hl:ss.length≤200000)
  (hn:∀ gb cap s2 wy c,s2=ss++[s]→Gs w B ov wy (.slice (some ⟨gb,0,none⟩) s2.length cap) s2→wpList Tryz.prog ops Q rest (((a.put o1.dst (.agg c)).put o2.dst (.slice (some ⟨wx.heap.size,0,none⟩) 1 1)).put o3.dst (.slice (some ⟨gb,0,none⟩) s2.length cap)) wy):wpList Tryz.prog ops Q (o1::o2::o3::rest) a wx:=by
 obtain ⟨t0,zt,hj,hz0,hz1,hz2,hz3⟩:=step_parts
 refine wpList_bld g1 186 xs h1 vs _ hv hb ?_
 refine wpList_one g2 80 186 x1 h2 (svC s) t0 zt 261 (e1 _) Tryz.underlying80 hj hz0 hz1 hz3 (svC_len s) (by decide) (by decide) ?_
 refine wpList_app g3 _ _ 80 h3 B 186 t0 zt 261 296 Tryz.underlying80 hj hz0 hz1 hz2 hz3 (by decide) ox ss.length (flatS ss) (e3 _ _) (own_kp h.os (Kp.alloc [] wx (.cells (svC s).toArray 186)) (by simp)) ⟨wx.heap.size,0,none⟩ 1 1 (svC s) (e2 _ _) (by rw [svC_len]) (fun j u hu=>by rw [Addr.add_mid,Nat.zero_add];exact (Bl.alloc wx (svC s) 186).at_ j u hu) (svC_one s) (by unfold maxLen;omega) (by omega) (Nat.le_trans h.lo (Nat.le_trans h.kp.size (Kp.alloc [] wx (.cells (svC s).toArray 186)).size)) (by omega) ?_
 intro gb cap wy ho hg hor
 have:=hn gb cap (ss++[s]) wy (svC s).toArray rfl (h.push rfl ho hg hor)
 simpa using this
structure Hx (w0 w wA:World) (ov:Value) (xb:Nat) (cn:List Value):Prop where
 bl:Bl wA xb cn
 kA:Kp [] w wA
 k0:Kp [] w0 w
 xb:xb=w.heap.size
 lo:∀ g,ov.ownBlock=some g→w0.heap.size≤g∧g < w.heap.size
section
variable {wA:World} {xb:Nat} {cn:List Value}
theorem Hx.start (h:Hx w0 w wA ov xb cn) (o:Os w w0.heap.size ov ss):Gs wA w0.heap.size ov wA ov ss:=⟨own_kp o h.kA (by simp),Kp.refl _ _,fun _ e=>.inl e,Nat.le_trans h.k0.size h.kA.size⟩
theorem Hx.bl' (h:Hx w0 w wA ov xb cn) (s:Gs wA B ov wx ox ss):Bl wx xb cn:=h.bl.keep s.kp fun hm=>by
 have:=(h.lo xb (by simpa using hm)).2
 have:=h.xb
 omega
theorem Hx.kp (h:Hx w0 w wA ov xb cn) (s:Gs wA B ov wx ox ss):Kp [] w0 wx:=(h.k0.trans h.kA).pass s.kp fun x hx=>.inr (h.lo x (by simpa using hx)).1
theorem Hx.out {is:List In} (h:Hx w0 w wA ov xb cn) (s:Gs wA w0.heap.size ov wx ox (ss++ss')) (hs:SvL ss' is):StO w w0.heap.size ov ss is (.returned ox) wx:=
 ⟨ox,ss',rfl,s.os,hs,(h.kA.mono (T:=ov.ownBlock.toList) (by simp)).trans s.kp,fun g hg=>by
   rcases s.own g hg with z | z
   ·exact .inl z
   ·exact .inr (Nat.le_trans h.kA.size z)⟩
end
def StC (w0:World) (q j:Nat) (f:Fm):Prop:=(∀ n d,(f.2 n d).length=f.1)∧∀ (w1:World) (ov1:Value) (ss1:List Sv) (d:Nat),Kp [] w0 w1→Os w1 w0.heap.size ov1 ss1→ss1.length+f.1≤100000→d+f.1≤100000 →
 Calls Tryz.prog 70 #[.pointer (some ⟨q,0,none⟩),ov1,.int .i64 (j:Nat),.int .i64 (d:Nat)] w1 (StO w1 w0.heap.size ov1 ss1 (f.2 ss1.length d))
theorem StC.go {wA wx:World} {xb:Nat} {cn:List Value} {j:Nat} {f:Fm} {d:Nat} (h:StC w0 q j f) (hx:Hx w0 w wA ov xb cn) (s:Gs wA w0.heap.size ov wx ox ss) (hl:ss.length+f.1≤100000) (hd:d+f.1≤100000) :
  Calls Tryz.prog 70 #[.pointer (some ⟨q,0,none⟩),ox,.int .i64 (j:Nat),.int .i64 (d:Nat)] wx fun e wy=>∃ a c s2 ss',e=.returned (.slice a s2.length c)∧s2=ss++ss'∧SvL ss' (f.2 ss.length d)∧s2.length=ss.length+f.1∧Gs wA w0.heap.size ov wy (.slice a s2.length c) s2:=by
 refine (h.2 wx ox ss d (hx.kp s) s.os hl hd).mono ?_
 intro e wy hc
 obtain ⟨oy,ss',e1,e2,e3,a,c,e4⟩:=s.call hc
 subst e4
 exact ⟨a,c,_,ss',e1,rfl,e2,by rw [List.length_append,e2.len,h.1],e3⟩
theorem Ps.kids {i:Nat} {p:Nw} (hP:Ps w B b q src k g bad v N) (hi:N[i]? = some p):∃ ka kc,p.2=.slice ka p.1.kids.length kc∧∀ (t j:Nat),p.1.kids[t]? = some j→∃ gk,ka=some ⟨gk,0,none⟩∧gk < w.heap.size∧w.cell? ⟨gk,t,none⟩=some (.int .i64 (j:Nat)):=by
 have kdw:=hP.kd p (List.mem_of_getElem? hi)
 rcases kdw.own.2 with ⟨z1,z2⟩ | ⟨gk,kc,cur,z1,z2,z3,_⟩
 ·exact ⟨none,0,by rw [z1,z2],fun t j ht=>by have:=(List.getElem?_eq_some_iff.1 ht).1;omega⟩
 ·refine ⟨_,kc,z1,fun t j ht=>⟨gk,rfl,lt_of_block z3,?_⟩⟩
  have:=kdw.own.cells (g:=gk) (by rw [z1];rfl) t (.int .i64 (j:Nat)) (by rw [List.getElem?_map,ht];rfl)
  rwa [Addr.add_mid,Nat.zero_add] at this
theorem svC_y (s:Sv) (y:Nat):svC { s with y:=y }=(svC s).set 259 (.int .i64 y):=by cases s;kernel_rfl
theorem svC_x (s:Sv) (x:Nat):svC { s with x:=x }=(svC s).set 258 (.int .i64 x):=by cases s;kernel_rfl
theorem flatS_set:∀ (l:List Sv) (i j:Nat) (s s':Sv) (u:Value),l[i]? = some s→j < 261→svC s'=(svC s).set j u→flatS (l.set i s')=(flatS l).set (i * 261+j) u
 | p::l,0,j,s,s',u,h,hj,e=>by
  cases h
  show svC s'++flatS l=(svC p++flatS l).set (0 * 261+j) u
  rw [Nat.zero_mul,Nat.zero_add,List.set_append_left _ _ (by rw [svC_len];exact hj),e]
 | p::l,i+1,j,s,s',u,h,hj,e=>by
  have ih:=flatS_set l i j s s' u (by simpa using h) hj e
  show svC p++flatS (l.set i s')=(svC p++flatS l).set ((i+1) * 261+j) u
  rw [List.set_append_right _ _ (by rw [svC_len];omega),svC_len,show (i+1) * 261+j - 261=i * 261+j by omega,ih]
theorem Gs.set {gb cap L i j:Nat} {s s':Sv} {u:Value} (h:Gs w B ov wx (.slice (some ⟨gb,0,none⟩) L cap) ss) (hL:L=ss.length) (hi:ss[i]? = some s) (hj:j < 261) (e:svC s'=(svC s).set j u):Gs w B ov (wx.setCell ⟨gb,i * 261+j,none⟩ u) (.slice (some ⟨gb,0,none⟩) L cap) (ss.set i s'):=by
 subst hL
 refine ⟨?_,h.kp.pass (Kp.setCell (S:=[gb]) wx (p:=⟨gb,i * 261+j,none⟩) u (by simp)) fun x hx=>?_,h.own,h.lo⟩
 ·have:=(h.os.stored (i * 261+j) u).1
  rw [←flatS_set ss i j s s' u hi hj e] at this
  show World.ownsRow _ _ _ _ _ (ss.set i s').length _
  rw [List.length_set];exact this
 ·rw [List.mem_singleton.1 hx]
  rcases h.own gb rfl with z | z
  ·exact .inl (by simp [z])
  ·exact .inr z
theorem Gs.cell {gb cap L i j:Nat} {s:Sv} {u:Value} (h:Gs w B ov wx (.slice (some ⟨gb,0,none⟩) L cap) ss) (hi:ss[i]? = some s) (hj:(svC s)[j]? = some u):wx.cell? ⟨gb,i * 261+j,none⟩=some u:=by
 have hjl:j < 261:=by have:=(List.getElem?_eq_some_iff.1 hj).1;rwa [svC_len] at this
 have:=h.os.cells (g:=gb) rfl (i * 261+j) u (by rw [flatS_at ss i s hi j hjl];exact hj)
 rwa [Addr.add_mid,Nat.zero_add] at this
end
section
variable {w w' w1:World} {B b q:Nat} {src:ByteArray} {k g:Nat} {bad:Int} {v v' v1:Value} {N:List Nw}
def Ks (w:World) (m:Nat) (kv:Value) (n:Nat) (Vs:List Rt):Prop:=
 (kv=.slice none 0 0∧Vs=[])∨∃ kb c,kv=.slice (some ⟨kb,0,none⟩) Vs.length c∧Vs.length≤c∧kb < m∧∀ (j:Nat) (V:Rt),Vs[j]? = some V→∃ tv,w.cell? ⟨kb,j,none⟩=some tv∧Tw w m tv n (ddR V)
theorem Ks.form {m n:Nat} {kv:Value} {Vs:List Rt} (h:Ks w m kv n Vs):∃ a c,kv=.slice a Vs.length c:=by
 rcases h with ⟨h,e⟩ | ⟨kb,c,h,_⟩
 ·exact ⟨none,0,by rw [h,e];rfl⟩
 ·exact ⟨_,c,h⟩
theorem Ks.at_ {m n j:Nat} {V:Rt} {kv:Value} {Vs:List Rt} (h:Ks w m kv n Vs) (hj:Vs[j]? = some V):∃ kb c tv,kv=.slice (some ⟨kb,0,none⟩) Vs.length c∧Vs.length≤c∧j < Vs.length∧kb < m∧w.cell? ⟨kb,j,none⟩=some tv∧Tw w m tv n (ddR V):=by
 rcases h with ⟨_,rfl⟩ | ⟨kb,c,h1,h2,h3,h4⟩
 ·simp at hj
 ·obtain ⟨tv,e1,e2⟩:=h4 j V hj
  exact ⟨kb,c,tv,h1,h2,(List.getElem?_eq_some_iff.1 hj).1,h3,e1,e2⟩
theorem Tu.next2 {n W nb c a:Nat} {T:Nat→List (Nat×Zt)} {lv:Value} {w5:World} {l:List (Nat×Zt)} (h:Tu w W w.heap.size nb c n T) (ha:a≤n) (hl:Lw w5 w5.heap.size lv l) (hlo:∀ g,lv.ownBlock=some g→w.heap.size≤g) (kp:Kp [] w w5) :
  Tu (w5.setCell ⟨nb,a,none⟩ lv) W (w5.setCell ⟨nb,a,none⟩ lv).heap.size nb c n (updT T a l)∧Kp [nb] w (w5.setCell ⟨nb,a,none⟩ lv):=by
 have h5:=h.keep (m':=w5.heap.size) kp (by simp) kp.size (Nat.le_refl _)
 have ne:lv.ownBlock≠some nb:=fun e=>by have:=hlo nb e;have:=h.hi;omega
 rw [setCell_size]
 exact ⟨h5.set ha hl ne (Nat.le_refl _) (Nat.le_refl _),(kp.mono (by simp)).trans (Kp.setCell (S:=[nb]) _ _ (by simp))⟩
theorem nil_made (w:World) (n a:Nat) (ha:a≤n):(w.alloc (.cells (nlC (n+1)) 194)).cell? ⟨w.heap.size,a,none⟩=some (.slice none 0 0):=by
 have B:=Bl.alloc w (nlC (n+1)).toList 194
 have e:(nlC (n+1)).toList.toArray=nlC (n+1):=by simp
 rw [e] at B
 exact B.at_ a _ (nlC_get (n+1) a (by omega))
theorem dd_one (p:Nat×Zt):ddT [p]=[p]:=by simp [frs]
theorem RpS.of {wA wr:World} {n nb c:Nat} {U:Rt} (kA:Kp [] w wA) (h:Tu wr wA.heap.size wr.heap.size nb c n (ddR U)) (kr:Kp [] wA wr):RpS w n U (.slice (some ⟨nb,0,none⟩) (n+1) c) wr:=⟨nb,c,rfl,h.base kA.size,kA.trans kr⟩
theorem Lw.one {p:Nat×Zt}:Lw (w.alloc (.cells (wyC p).toArray 197)) (w.alloc (.cells (wyC p).toArray 197)).heap.size (.slice (some ⟨w.heap.size,0,none⟩) 1 1) [p]:=by
 have:=Ow.one (w:=w) (p:=p) (g:=w.heap.size) rfl rfl
 rw [show (w.alloc (.cells (wyC p).toArray 197)).heap.size=w.heap.size+1 by simp]
 exact this
theorem table_one {text:ByteArray} {kidv:Value} {i:Nat} {p:Nw} (hP:Ps w B b q src k g bad v N) (hi:N[i]? = some p) (hN:N.length≤100000) (hn:text.size≤900) {m:Nat→Bool} (hk:p.1.kind=1) (hs:∀ c,c < 256→p.1.set c=m c) :
  Calls Tryz.prog 71 #[.pointer (some ⟨q,0,none⟩),.int .i64 (i:Nat),.string text,kidv] w fun e w'=>∃ ov,e=.returned ov∧RpS w text.size (vOne text m) ov w':=by
 obtain ⟨gb,cg,hv,hlt,hcg,hcell⟩:=hP.nodes hi
 obtain ⟨cn,hcn⟩:∃ cn,cn=ndC p.1 p.2:=⟨_,rfl⟩
 have hcl:cn.length=262:=by rw [hcn];exact ndC_len _ _
 have hc1:∀ u∈cn,u.oneCell'=true:=by rw [hcn];exact ndC_one _ (hP.kd p (List.mem_of_getElem? hi)).one
 have RG:Hid (w.rangeAt gb (i * 262) cn):=hid (fun j u hu=>hcell j u (by rw [←hcl];exact (List.getElem?_eq_some_iff.1 hu).1) (by rw [←hcn];exact hu))
 have q0:=hP.q0
 rw [hv] at q0
 have qi:(i:Int) < (N.length:Int):=by omega
 have qi0:(0:Int)≤(i:Int):=by omega
 obtain ⟨n,hnn⟩:∃ n,n=text.size:=⟨_,rfl⟩
 have hmk:=fun w=>make_table1 w n (by omega)
 have hn1:IntKind.i64.wrap ((n:Int)+1)=((n+1:Nat):Int):=wrap_i64_succ n (n+1) rfl (by omega)
 have hA:=ndC_at p.1 p.2
 rw [←hcn] at hA
 have HA:=hid (And.intro hA hcn)
 obtain ⟨xb,hxb⟩:∃ xb,xb=w.heap.size:=⟨_,rfl⟩
 obtain ⟨j0,zj,hj,hz0,hz1,hz2,hz3⟩:=way_parts
 have HI:=hid (And.intro hj (And.intro hz0 (And.intro hz1 (And.intro hz2 hz3))))
 clear hj hz0 hz1 hz2 hz3
 clear hcell hP hi hv hA hcn
 rw [←hnn] at hn ⊢
 have HNN:=hid hnn
 clear hnn
 go_enter Tryz.func71,Tryz.ntmps71
 go_upto_region 2 with (first | (refine wpList_load_mid rfl 192 (.tmp 27) rfl gb (i * 262) rfl cn _ RG.out Tryz.underlying192 rfl (by rw [hcl];exact Tryz.szNodeR) ?_) | (refine newVarR (w1:=w) rfl 192 (.tmp 9) (.tmp 28) rfl Tryz.zeroCells192.toList 192 cn rfl rfl (by rw [hcl];kernel_rfl) (by rw [hcl];exact Tryz.szNodeR) hc1 ?_;intro wA bA kA))
 rw [←hxb] at bA ⊢
 obtain ⟨wB,hwB⟩:∃ wB,wB=wA.alloc (.cells (nlC (n+1)) 194):=⟨_,rfl⟩
 obtain ⟨nb,hnb⟩:∃ nb,nb=wA.heap.size:=⟨_,rfl⟩
 have kB:Kp [] wA wB:=by rw [hwB];exact Kp.alloc _ _ _
 have sB:wB.heap.size=wA.heap.size+1:=by rw [hwB];simp
 have tB:Tu wB wA.heap.size wB.heap.size nb (n+1) n (fun _=>[]):=by
  have:=Tu.make wA n
  rw [←hwB,←sB] at this
  rw [hnb]
  exact this
 have xB:Bl wB xb cn:=bA.keep kB (by simp)
 have HNL:Hid (∀ a,0≤a→a≤n→wB.cell? ⟨nb,a,none⟩=some (.slice none 0 0)):=hid (fun a _ ha=>by rw [hwB,hnb];exact nil_made wA n a ha)
 have HB:=hid (And.intro tB (And.intro bA (And.intro kA (And.intro kB (And.intro hxb hnb)))))
 have c0:=xB.at_ 0 _ HA.out.1.1
 have sAx:=bA.lt
 clear hxb bA kA xB tB
 go_upto_region 3 with fail
 rw [←HNN.out]
 go_upto_region 4 with fail
 rw [←hwB,←hnb]
 clear kB sB hwB RG q0 qi qi0 hnb
 rw [hk] at c0
 go_wp2_with fail
 go_loopw [12] (fun iv wr=>∃ t:Nat,t≤n∧iv=.int .i64 t∧Tu wr wA.heap.size wr.heap.size nb (n+1) n (upto t (ddR (vOne text m)) fun _=>[])∧Kp [] wA wr) (fun iv _=>2000 - (intOf iv).toNat)
 case atStart=>exact ⟨0,Nat.zero_le _,rfl,HB.out.1.congr (fun x _=>by unfold upto;rw [if_neg (by omega)]),HB.out.2.2.2.1⟩
 case round=>
  obtain ⟨t,ht,rfl,tr,kr⟩:=hrel
  by_cases hlt:t < n
  ·have hts:t < text.size:=by have:=HNN.out;omega
   have q1:(t:Int) < (n:Int):=by omega
   have q2:(t:Int) < (text.size:Int):=by have:=HNN.out;omega
   have q3:(0:Int)≤(t:Int):=by omega
   have q4:(t:Int) < ((n+1:Nat):Int):=by omega
   have q4b:(t:Int) < (n:Int)+1:=by omega
   have hc2:IntKind.i64.wrap ((t:Int)+1)=((t+1:Nat):Int):=wrap_i64_succ t (t+1) rfl (by omega)
   have hb256:(text[t]'hts).toNat < 256:=UInt8.toNat_lt _
   have q5:((text[t]'hts).toNat:Int) < 256:=by omega
   have q6:(0:Int)≤((text[t]'hts).toNat:Int):=by omega
   have xr:=HB.out.2.1.keep kr (by simp)
   have d0:=xr.at_ (1+(text[t]'hts).toNat) _ (HA.out.1.2.1 _ hb256)
   rw [hs _ hb256] at d0
   have eV:vOne text m t=if m (text[t]'hts).toNat=true then [(t+1,neg)] else []:=by unfold vOne;rw [dif_pos hts]
   have HT:=hid (And.intro tr kr)
   clear tr kr xr
   cases hm:m (text[t]'hts).toNat with
   | true=>
    rw [hm] at d0 eV
    go_wp2_with fail
    refine (still_any (x:=t+1)).mono ?_
    rintro e w5 ⟨rfl,k5⟩
    have k6:=Kp.alloc [] w5 (.cells (wyC (t+1,neg)).toArray 197)
    have n2:=HT.out.1.next2 (l:=[(t+1,neg)]) (show t≤n by omega) Lw.one (fun g hg=>by have e:w5.heap.size=g:=Option.some.inj hg;have:=k5.size;omega) (k5.trans k6)
    have t6:=HT.out.1.keep (m':=(w5.alloc (.cells (wyC (t+1,neg)).toArray 197)).heap.size) (k5.trans k6) (by simp) (k5.trans k6).size (Nat.le_refl _)
    obtain ⟨⟨l0,s1⟩,s2⟩:=t6.slot (show t≤n by omega)
    have HN2:=hid n2
    clear n2 t6 k5 k6
    go_wp2_with (first | (refine wpList_one rfl 194 197 (.tmp 53) rfl (wyC (t+1,neg)) j0 zj 21 rfl Tryz.underlying194 HI.out.1 HI.out.2.1 HI.out.2.2.1 HI.out.2.2.2.2 (wyC_len _) (by decide) (by decide) ?_) | fail)
    go_roundw
    ·obtain ⟨h7,k7⟩:=HN2.out
     refine ⟨t+1,by omega,by go_num,h7.congr (fun x _=>?_),((HT.out.2.mono (by simp)).trans k7).news (fun y hy=>by rw [List.mem_singleton.1 hy];exact HT.out.1.lo)⟩
     rw [←upto_step x]
     unfold updT
     by_cases e:x=t
     ·rw [if_pos e,if_pos e];show _=ddT (vOne text m t);rw [eV];simp [frs]
     ·rw [if_neg e,if_neg e]
    ·simp [intOf];omega
   | false=>
    rw [hm] at d0 eV
    go_wp2_with fail
    go_roundw
    ·refine ⟨t+1,by omega,by go_num,HT.out.1.congr (fun x _=>?_),HT.out.2⟩
     rw [←upto_step x]
     unfold updT
     by_cases e:x=t
     ·rw [if_pos e,e];unfold upto;rw [if_neg (by omega)];show _=ddT (vOne text m t);rw [eV,if_neg (by simp)];rfl
     ·rw [if_neg e]
    ·simp [intOf];omega
  ·have q1:¬ (t:Int) < (n:Int):=by omega
   have HT:=hid (And.intro tr kr)
   clear tr kr
   go_wp2_with fail
   go_ret
   refine ⟨_,rfl,RpS.of HB.out.2.2.1 (HT.out.1.congr fun x hx=>?_) HT.out.2⟩
   unfold upto
   by_cases e:x < t
   ·rw [if_pos e]
   ·rw [if_neg e];show []=ddT (vOne text m x);unfold vOne;rw [dif_neg (by have:=HNN.out;omega)];rfl
theorem table_edge {text:ByteArray} {kidv:Value} {i:Nat} {p:Nw} (hP:Ps w B b q src k g bad v N) (hi:N[i]? = some p) (hN:N.length≤100000) (hn:text.size≤900) {e0:Nat} (he:e0=1∨e0=2) (hk:p.1.kind=e0+1) :
  Calls Tryz.prog 71 #[.pointer (some ⟨q,0,none⟩),.int .i64 (i:Nat),.string text,kidv] w fun e w'=>∃ ov,e=.returned ov∧RpS w text.size (vEdge text e0) ov w':=by
 obtain ⟨gb,cg,hv,hlt,hcg,hcell⟩:=hP.nodes hi
 obtain ⟨cn,hcn⟩:∃ cn,cn=ndC p.1 p.2:=⟨_,rfl⟩
 have hcl:cn.length=262:=by rw [hcn];exact ndC_len _ _
 have hc1:∀ u∈cn,u.oneCell'=true:=by rw [hcn];exact ndC_one _ (hP.kd p (List.mem_of_getElem? hi)).one
 have RG:Hid (w.rangeAt gb (i * 262) cn):=hid (fun j u hu=>hcell j u (by rw [←hcl];exact (List.getElem?_eq_some_iff.1 hu).1) (by rw [←hcn];exact hu))
 have q0:=hP.q0
 rw [hv] at q0
 have qi:(i:Int) < (N.length:Int):=by omega
 have qi0:(0:Int)≤(i:Int):=by omega
 obtain ⟨n,hnn⟩:∃ n,n=text.size:=⟨_,rfl⟩
 have hmk:=fun w=>make_table1 w n (by omega)
 have hn1:IntKind.i64.wrap ((n:Int)+1)=((n+1:Nat):Int):=wrap_i64_succ n (n+1) rfl (by omega)
 have hA:=ndC_at p.1 p.2
 rw [←hcn] at hA
 have HA:=hid (And.intro hA hcn)
 obtain ⟨xb,hxb⟩:∃ xb,xb=w.heap.size:=⟨_,rfl⟩
 obtain ⟨j0,zj,hj,hz0,hz1,hz2,hz3⟩:=way_parts
 have HI:=hid (And.intro hj (And.intro hz0 (And.intro hz1 (And.intro hz2 hz3))))
 clear hj hz0 hz1 hz2 hz3
 clear hcell hP hi hv hA hcn
 rw [←hnn] at hn ⊢
 have HNN:=hid hnn
 clear hnn
 go_enter Tryz.func71,Tryz.ntmps71
 go_upto_region 2 with (first | (refine wpList_load_mid rfl 192 (.tmp 27) rfl gb (i * 262) rfl cn _ RG.out Tryz.underlying192 rfl (by rw [hcl];exact Tryz.szNodeR) ?_) | (refine newVarR (w1:=w) rfl 192 (.tmp 9) (.tmp 28) rfl Tryz.zeroCells192.toList 192 cn rfl rfl (by rw [hcl];kernel_rfl) (by rw [hcl];exact Tryz.szNodeR) hc1 ?_;intro wA bA kA))
 rw [←hxb] at bA ⊢
 obtain ⟨wB,hwB⟩:∃ wB,wB=wA.alloc (.cells (nlC (n+1)) 194):=⟨_,rfl⟩
 obtain ⟨nb,hnb⟩:∃ nb,nb=wA.heap.size:=⟨_,rfl⟩
 have kB:Kp [] wA wB:=by rw [hwB];exact Kp.alloc _ _ _
 have sB:wB.heap.size=wA.heap.size+1:=by rw [hwB];simp
 have tB:Tu wB wA.heap.size wB.heap.size nb (n+1) n (fun _=>[]):=by
  have:=Tu.make wA n
  rw [←hwB,←sB] at this
  rw [hnb]
  exact this
 have xB:Bl wB xb cn:=bA.keep kB (by simp)
 have HNL:Hid (∀ a,0≤a→a≤n→wB.cell? ⟨nb,a,none⟩=some (.slice none 0 0)):=hid (fun a _ ha=>by rw [hwB,hnb];exact nil_made wA n a ha)
 have HB:=hid (And.intro tB (And.intro bA (And.intro kA (And.intro kB (And.intro hxb hnb)))))
 have c0:=xB.at_ 0 _ HA.out.1.1
 have sAx:=bA.lt
 clear hxb bA kA xB tB
 go_upto_region 3 with fail
 rw [←HNN.out]
 go_upto_region 4 with fail
 rw [←hwB,←hnb]
 clear kB sB hwB RG q0 qi qi0 hnb
 rw [hk] at c0
 have HT:=hid (And.intro HB.out.1 HB.out.2.2.2.1)
 have q3:(0:Int)≤(n:Int):=by omega
 have q4:(n:Int) < ((n+1:Nat):Int):=by omega
 have q4b:(n:Int) < (n:Int)+1:=by omega
 have q5:(0:Int) < (n:Int)+1:=by omega
 rcases he with rfl | rfl
 ·go_wp2_with fail
  refine (still_any (x:=0)).mono ?_
  rintro e w5 ⟨rfl,k5⟩
  have k6:=Kp.alloc [] w5 (.cells (wyC (0,neg)).toArray 197)
  have n2:=HT.out.1.next2 (l:=[(0,neg)]) (Nat.zero_le _) Lw.one (fun g hg=>by have e:w5.heap.size=g:=Option.some.inj hg;have:=k5.size;omega) (k5.trans k6)
  have t6:=HT.out.1.keep (m':=(w5.alloc (.cells (wyC (0,neg)).toArray 197)).heap.size) (k5.trans k6) (by simp) (k5.trans k6).size (Nat.le_refl _)
  obtain ⟨⟨l0,s1⟩,s2⟩:=t6.slot (Nat.zero_le _)
  have HN2:=hid n2
  clear n2 t6 k5 k6
  go_wp2_with (first | (refine wpList_one rfl 194 197 (.tmp 59) rfl (wyC (0,neg)) j0 zj 21 rfl Tryz.underlying194 HI.out.1 HI.out.2.1 HI.out.2.2.1 HI.out.2.2.2.2 (wyC_len _) (by decide) (by decide) ?_) | fail)
  go_ret
  obtain ⟨h7,k7⟩:=HN2.out
  refine ⟨_,rfl,RpS.of HB.out.2.2.1 (h7.congr fun x hx=>?_) (((HT.out.2.mono (by simp)).trans k7).news (fun y hy=>by rw [List.mem_singleton.1 hy];exact HT.out.1.lo))⟩
  unfold updT
  show _=ddT (vEdge text 1 x)
  unfold vEdge
  by_cases e:x=0
  ·rw [if_pos e,if_pos (.inl ⟨rfl,e⟩),e,dd_one]
  ·rw [if_neg e,if_neg (by omega)];rfl
 ·go_wp2_with fail
  refine (still_any (x:=n)).mono ?_
  rintro e w5 ⟨rfl,k5⟩
  have k6:=Kp.alloc [] w5 (.cells (wyC (n,neg)).toArray 197)
  have n2:=HT.out.1.next2 (l:=[(n,neg)]) (Nat.le_refl _) Lw.one (fun g hg=>by have e:w5.heap.size=g:=Option.some.inj hg;have:=k5.size;omega) (k5.trans k6)
  have t6:=HT.out.1.keep (m':=(w5.alloc (.cells (wyC (n,neg)).toArray 197)).heap.size) (k5.trans k6) (by simp) (k5.trans k6).size (Nat.le_refl _)
  obtain ⟨⟨l0,s1⟩,s2⟩:=t6.slot (Nat.le_refl _)
  have HN2:=hid n2
  clear n2 t6 k5 k6
  go_wp2_with (first | (refine wpList_one rfl 194 197 (.tmp 67) rfl (wyC (n,neg)) j0 zj 21 rfl Tryz.underlying194 HI.out.1 HI.out.2.1 HI.out.2.2.1 HI.out.2.2.2.2 (wyC_len _) (by decide) (by decide) ?_) | fail)
  go_ret
  obtain ⟨h7,k7⟩:=HN2.out
  refine ⟨_,rfl,RpS.of HB.out.2.2.1 (h7.congr fun x hx=>?_) (((HT.out.2.mono (by simp)).trans k7).news (fun y hy=>by rw [List.mem_singleton.1 hy];exact HT.out.1.lo))⟩
  unfold updT
  show _=ddT (vEdge text 2 x)
  unfold vEdge
  by_cases e:x=n
  ·rw [if_pos e,if_pos (.inr ⟨rfl,by have:=HNN.out;omega⟩),e,dd_one]
  ·rw [if_neg e,if_neg (by have:=HNN.out;omega)];rfl
end
section
variable {w w' w1:World} {B b q:Nat} {src:ByteArray} {k g:Nat} {bad:Int} {v v' v1:Value} {N:List Nw}
theorem Mng.row {n:Nat}:∀ (l:List Rt),(∀ V∈l,Mng n V)→Mng n (vRow l)
 | [],_=>Mng.id
 | V::l,h=>(h V (by simp)).seq (Mng.row l fun U hU=>h U (by simp [hU]))
theorem vRow_drop {l:List Rt} {t:Nat} {V:Rt} (h:l[t]? = some V):vRow (l.drop t)=vSeq V (vRow (l.drop (t+1))):=by
 have hlt:=(List.getElem?_eq_some_iff.1 h).1
 have e:l.drop t=V::l.drop (t+1):=by
  rw [List.drop_eq_getElem_cons hlt,(List.getElem?_eq_some_iff.1 h).2]
 rw [e,vRow]
theorem table_row {text:ByteArray} {kidv:Value} {i:Nat} {p:Nw} (hP:Ps w B b q src k g bad v N) (hi:N[i]? = some p) (hN:N.length≤100000) (hn:text.size≤900) {m:Nat} {Vs:List Rt} (hm:m≤w.heap.size) (hK:Ks w m kidv text.size Vs) (hV:∀ V∈Vs,Mng text.size V) (hVl:Vs.length≤10000) (hk:p.1.kind=5) :
  Calls Tryz.prog 71 #[.pointer (some ⟨q,0,none⟩),.int .i64 (i:Nat),.string text,kidv] w fun e w'=>∃ ov,e=.returned ov∧RpS w text.size (vRow Vs) ov w':=by
 obtain ⟨gb,cg,hv,hlt,hcg,hcell⟩:=hP.nodes hi
 obtain ⟨cn,hcn⟩:∃ cn,cn=ndC p.1 p.2:=⟨_,rfl⟩
 have hcl:cn.length=262:=by rw [hcn];exact ndC_len _ _
 have hc1:∀ u∈cn,u.oneCell'=true:=by rw [hcn];exact ndC_one _ (hP.kd p (List.mem_of_getElem? hi)).one
 have RG:Hid (w.rangeAt gb (i * 262) cn):=hid (fun j u hu=>hcell j u (by rw [←hcl];exact (List.getElem?_eq_some_iff.1 hu).1) (by rw [←hcn];exact hu))
 have q0:=hP.q0
 rw [hv] at q0
 have qi:(i:Int) < (N.length:Int):=by omega
 have qi0:(0:Int)≤(i:Int):=by omega
 obtain ⟨n,hnn⟩:∃ n,n=text.size:=⟨_,rfl⟩
 have hmk:=fun w=>make_table1 w n (by omega)
 have hn1:IntKind.i64.wrap ((n:Int)+1)=((n+1:Nat):Int):=wrap_i64_succ n (n+1) rfl (by omega)
 have hA:=ndC_at p.1 p.2
 rw [←hcn] at hA
 have HA:=hid (And.intro hA hcn)
 obtain ⟨xb,hxb⟩:∃ xb,xb=w.heap.size:=⟨_,rfl⟩
 have HK:=hid (And.intro hK (And.intro hm hV))
 obtain ⟨ka0,kc0,hkf⟩:=hK.form
 subst hkf
 clear hK hV
 clear hcell hP hi hv hA hcn
 rw [←hnn] at hn ⊢
 have HNN:=hid hnn
 clear hnn
 go_enter Tryz.func71,Tryz.ntmps71
 go_upto_region 2 with (first | (refine wpList_load_mid rfl 192 (.tmp 27) rfl gb (i * 262) rfl cn _ RG.out Tryz.underlying192 rfl (by rw [hcl];exact Tryz.szNodeR) ?_) | (refine newVarR (w1:=w) rfl 192 (.tmp 9) (.tmp 28) rfl Tryz.zeroCells192.toList 192 cn rfl rfl (by rw [hcl];kernel_rfl) (by rw [hcl];exact Tryz.szNodeR) hc1 ?_;intro wA bA kA))
 rw [←hxb] at bA ⊢
 obtain ⟨wB,hwB⟩:∃ wB,wB=wA.alloc (.cells (nlC (n+1)) 194):=⟨_,rfl⟩
 obtain ⟨nb,hnb⟩:∃ nb,nb=wA.heap.size:=⟨_,rfl⟩
 have kB:Kp [] wA wB:=by rw [hwB];exact Kp.alloc _ _ _
 have sB:wB.heap.size=wA.heap.size+1:=by rw [hwB];simp
 have tB:Tu wB wA.heap.size wB.heap.size nb (n+1) n (fun _=>[]):=by
  have:=Tu.make wA n
  rw [←hwB,←sB] at this
  rw [hnb]
  exact this
 have xB:Bl wB xb cn:=bA.keep kB (by simp)
 have HNL:Hid (∀ a,0≤a→a≤n→wB.cell? ⟨nb,a,none⟩=some (.slice none 0 0)):=hid (fun a _ ha=>by rw [hwB,hnb];exact nil_made wA n a ha)
 have HB:=hid (And.intro tB (And.intro bA (And.intro kA (And.intro kB (And.intro hxb hnb)))))
 have c0:=xB.at_ 0 _ HA.out.1.1
 have sAx:=bA.lt
 clear hxb bA kA xB tB
 go_upto_region 3 with fail
 rw [←HNN.out]
 go_upto_region 4 with fail
 rw [←hwB,←hnb]
 clear kB sB hwB RG q0 qi qi0 hnb
 rw [hk] at c0
 go_wp2_with fail
 refine (stay_any hn).mono ?_
 rintro e w2 ⟨tb0,c2,rfl,t0,k2⟩
 have k2A:Kp [] wA w2:=HB.out.2.2.2.1.trans k2
 have t0':Tu w2 wA.heap.size w2.heap.size tb0 c2 n (ddR (vRow (Vs.drop Vs.length))):=(t0.base HB.out.2.2.2.1.size).congr fun x _=>by
  rw [List.drop_length]
  exact (dd_id x).symm
 have H0:=hid (And.intro t0' k2A)
 have hd0:IntKind.i64.wrap ((Vs.length:Int) - 1)=(Vs.length:Int) - 1:=by rw [IntKind.wrap_i64];omega
 clear t0 t0' k2 k2A c0
 go_wp2_with fail
 go_loopw [11,16] (fun ov kx wr=>∃ j tb c:Nat,j≤Vs.length∧kx=.int .i64 ((j:Int) - 1)∧ov=.slice (some ⟨tb,0,none⟩) (n+1) c∧Tu wr wA.heap.size wr.heap.size tb c n (ddR (vRow (Vs.drop j)))∧Kp [] wA wr) (fun _ kx _=>((intOf kx)+1).toNat)
 case atStart=>exact ⟨Vs.length,tb0,c2,Nat.le_refl _,rfl,rfl,H0.out.1,H0.out.2⟩
 case round=>
  obtain ⟨j,tb,cc,hj,rfl,hov,hR,kR⟩:=hrel
  subst hov
  by_cases h0:j=0
  ·subst h0
   have HR:=hid (And.intro hR kR)
   clear hR kR
   go_wp2_with fail
   go_ret
   exact ⟨_,rfl,RpS.of HB.out.2.2.1 HR.out.1 HR.out.2⟩
  ·obtain ⟨s,rfl⟩:∃ s,j=s+1:=⟨j - 1,by omega⟩
   have et:(((s+1:Nat):Int) - 1)=(s:Int):=by omega
   rw [et]
   have qs0:(0:Int)≤(s:Int):=by omega
   have qs1:(s:Int) < (Vs.length:Int):=by omega
   have hd1:IntKind.i64.wrap ((s:Int) - 1)=(s:Int) - 1:=by rw [IntKind.wrap_i64];omega
   obtain ⟨V,hVs⟩:∃ V,Vs[s]? = some V:=⟨_,List.getElem?_eq_getElem (by omega)⟩
   obtain ⟨kb,ck,tv,hkv,_,_,hkb,hkc,hkt⟩:=HK.out.1.at_ hVs
   obtain ⟨rfl,rfl⟩:ka0=some ⟨kb,0,none⟩∧kc0=ck:=by injection hkv with e1 _ e3;exact ⟨e1,e3⟩
   have hmV:Mng n V:=by rw [HNN.out];exact HK.out.2.2 V (List.mem_of_getElem? hVs)
   have hmU:Mng n (vRow (Vs.drop (s+1))):=Mng.row _ fun U hU=>by rw [HNN.out];exact HK.out.2.2 U (List.mem_of_mem_drop hU)
   have hkt':Tw w m tv n (ddR V):=by rw [HNN.out];exact hkt
   have HO:=hid (And.intro hR (And.intro kR (And.intro hmU (And.intro hmV (And.intro hkt' hkc)))))
   have eRow:=vRow_drop hVs
   clear hR kR hkt hkt' hkc hmU hmV hkv
   obtain ⟨wa,hwa⟩:∃ wa,wa=wr.alloc (.cells (nlC (n+1)) 194):=⟨_,rfl⟩
   obtain ⟨nb2,hnb2⟩:∃ nb,nb=wr.heap.size:=⟨_,rfl⟩
   have ka:Kp [] wr wa:=by rw [hwa];exact Kp.alloc _ _ _
   have sa:wa.heap.size=wr.heap.size+1:=by rw [hwa];simp
   have ta:Tu wa wr.heap.size wa.heap.size nb2 (n+1) n (upto 0 (ddR (vSeq V (vRow (Vs.drop (s+1))))) fun _=>[]):=by
    have:=(Tu.make wr n).congr (U:=upto 0 (ddR (vSeq V (vRow (Vs.drop (s+1))))) fun _=>[]) (fun x _=>by unfold upto;rw [if_neg (by omega)])
    rw [←hwa,←sa] at this
    rw [hnb2]
    exact this
   have HAA:=hid (And.intro ka (And.intro ta hnb2))
   clear ka sa ta
   go_upto_region 32 with fail
   rw [←hwa,←hnb2]
   clear hwa hnb2
   go_wp2_with fail
   go_loopw [18] (fun iv wx=>∃ t:Nat,t≤n+1∧iv=.int .i64 t∧Tu wx wr.heap.size wx.heap.size nb2 (n+1) n (upto t (ddR (vSeq V (vRow (Vs.drop (s+1))))) fun _=>[])∧Kp [] wr wx) (fun iv _=>2000 - (intOf iv).toNat)
   case atStart=>exact ⟨0,Nat.zero_le _,rfl,HAA.out.2.1,HAA.out.1⟩
   case round=>
    obtain ⟨t,hat',rfl,tr,kr⟩:=hrel
    by_cases hat:t≤n
    ·have q1:(t:Int)≤(n:Int):=by omega
     have q2:(t:Int) < ((n+1:Nat):Int):=by omega
     have q2b:(t:Int) < (n:Int)+1:=by omega
     have q3:(0:Int)≤(t:Int):=by omega
     have hc2:IntKind.i64.wrap ((t:Int)+1)=((t+1:Nat):Int):=wrap_i64_succ t (t+1) rfl (by omega)
     have kw1:Kp [] w wr:=HB.out.2.2.1.trans (HO.out.2.1.trans kr)
     have t1:Tw wr wr.heap.size tv n (ddR V):=HO.out.2.2.2.2.1.keep kw1 HK.out.2.1 (by simp) (Nat.le_trans HK.out.2.1 kw1.size)
     have d1:=(kw1.cell (p:=⟨kb,s,none⟩) (by show kb < _;have:=HK.out.2.1;omega) (by simp)).trans HO.out.2.2.2.2.2
     have t2:=HO.out.1.tw.keep kr (Nat.le_refl _) (by simp) kr.size
     have HR:=hid (And.intro tr (And.intro kr (And.intro t1 t2)))
     clear tr kr kw1 t1 t2
     go_wp2_with fail
     refine (behind_v HR.out.2.2.1 HR.out.2.2.2 (Nat.le_refl _) hn hat HO.out.2.2.2.1 HO.out.2.2.1).mono ?_
     rintro e w7 ⟨lv',rfl,u7⟩
     obtain ⟨fa,fc,hf⟩:=u7.ow.form
     subst hf
     have t7:=HR.out.1.keep (m':=w7.heap.size) u7.kp (by simp) u7.size (Nat.le_refl _)
     obtain ⟨⟨l0,s1⟩,s2⟩:=t7.slot hat
     have H7:=hid (And.intro u7 (HR.out.1.next hat u7))
     clear u7 t7 d1
     go_wp2_with fail
     go_roundw
     ·obtain ⟨u7,h7,k7⟩:=H7.out
      have hz:=fun v=>setCell_size w7 ⟨nb2,t,none⟩ v
      refine ⟨t+1,by omega,by go_num,by rw [hz];exact h7,((HR.out.2.1.mono (by simp)).trans k7).news (fun y hy=>?_)⟩
      rw [List.mem_singleton.1 hy,HAA.out.2.2];exact Nat.le_refl _
     ·simp [intOf];omega
    ·have q1:¬ (t:Int)≤(n:Int):=by omega
     have HR:=hid (And.intro tr kr)
     clear tr kr
     go_wp2_with fail
     go_roundw
     ·obtain ⟨tr,kr⟩:=HR.out
      have hfin:=tr.congr (U:=ddR (vRow (Vs.drop s))) (fun x hx=>by rw [eRow];unfold upto;rw [if_pos (by omega)])
      exact ⟨s,nb2,n+1,by omega,by go_num,rfl,hfin.base HO.out.2.1.size,HO.out.2.1.trans kr⟩
     ·simp [intOf]
end
