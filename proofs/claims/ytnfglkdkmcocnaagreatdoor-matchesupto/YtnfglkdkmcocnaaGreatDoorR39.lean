import Derived.Test.YtnfglkdkmcocnaaGreatDoorR32
import Derived.Test.YtnfglkdkmcocnaaGreatDoorR33
import Derived.Test.YtnfglkdkmcocnaaGreatDoorR38
set_option maxRecDepth 100000
set_option maxHeartbeats 16000000
set_option linter.all false
namespace Go.Proofs.YtnfglkdkmcocnaaGreatDoor
open Go.RowKit
def SvH (kd e:Nat) (s:Sv) (i:In):Prop:=s.kind=11∧s.deep=i.dp∧i.kind=kd∧(kd=7→i.nx=e)∧(kd=4→s.x=i.nx∧i.ot=e)
structure SvE (kd n e:Nat) (es:List Nat) (ss:List Sv) (is:List In):Prop where
 len:ss.length=is.length
 full:∀ (j:Nat) s i,ss[j]? = some s→is[j]? = some i→n+j∉es→SvI s i
 half:∀ (j:Nat) s i,ss[j]? = some s→is[j]? = some i→n+j∈es→SvH kd e s i
 bnd:∀ x∈es,n≤x∧x < n+ss.length
section
variable {kd n e:Nat} {es:List Nat} {ss ss':List Sv} {is is':List In}
theorem SvE.nil (kd n e:Nat):SvE kd n e [] [] []:=⟨rfl,fun j s i h=>by simp at h,fun j s i h=>by simp at h,by simp⟩
theorem SvE.done (h:SvE kd n e [] ss is):SvL ss is:=⟨h.len,fun j s i h1 h2=>h.full j s i h1 h2 (by simp)⟩
theorem SvE.app (h:SvE kd n e es ss is) (h':SvL ss' is'):SvE kd n e es (ss++ss') (is++is'):=by
 refine ⟨by rw [List.length_append,List.length_append,h.len,h'.len],fun j s i h1 h2 h3=>?_,fun j s i h1 h2 h3=>?_,fun x hx=>⟨(h.bnd x hx).1,by have:=(h.bnd x hx).2;rw [List.length_append];omega⟩⟩
 ·by_cases hj:j < ss.length
  ·rw [List.getElem?_append_left hj] at h1
   rw [List.getElem?_append_left (by rw [←h.len];exact hj)] at h2
   exact h.full j s i h1 h2 h3
  ·rw [List.getElem?_append_right (by omega)] at h1
   rw [List.getElem?_append_right (by rw [←h.len];omega),←h.len] at h2
   exact h'.at_ _ s i h1 h2
 ·have hj:j < ss.length:=by have:=(h.bnd _ h3).2;omega
  rw [List.getElem?_append_left hj] at h1
  rw [List.getElem?_append_left (by rw [←h.len];exact hj)] at h2
  exact h.half j s i h1 h2 h3
theorem SvE.late {s:Sv} {i:In} {x:Nat} (h:SvE kd n e es ss is) (hh:SvH kd e s i) (hx:x=n+ss.length):SvE kd n e (es++[x]) (ss++[s]) (is++[i]):=by
 subst hx
 refine ⟨by rw [List.length_append,List.length_append,h.len];rfl,fun j s' i' h1 h2 h3=>?_,fun j s' i' h1 h2 h3=>?_,fun x hx=>?_⟩
 ·have hj:j < ss.length:=by
   have:=(List.getElem?_eq_some_iff.1 h1).1
   rw [List.length_append] at this
   have:j < ss.length+1:=this
   have:j≠ss.length:=fun q=>h3 (by simp [q])
   omega
  rw [List.getElem?_append_left hj] at h1
  rw [List.getElem?_append_left (by rw [←h.len];exact hj)] at h2
  exact h.full j s' i' h1 h2 (fun q=>h3 (by simp [q]))
 ·by_cases hj:j < ss.length
  ·rw [List.getElem?_append_left hj] at h1
   rw [List.getElem?_append_left (by rw [←h.len];exact hj)] at h2
   refine h.half j s' i' h1 h2 ?_
   rcases List.mem_append.1 h3 with q | q
   ·exact q
   ·have:=List.mem_singleton.1 q;omega
  ·rw [List.getElem?_append_right (by omega)] at h1
   rw [List.getElem?_append_right (by rw [←h.len];omega),←h.len] at h2
   have e0:j - ss.length=0:=by
    have:=(List.getElem?_eq_some_iff.1 h1).1
    have:j - ss.length < 1:=this
    omega
   rw [e0] at h1 h2
   cases h1;cases h2;exact hh
 ·rw [List.length_append]
  show _∧_ < n+(ss.length+1)
  rcases List.mem_append.1 hx with q | q
  ·have:=h.bnd x q;omega
  ·have:=List.mem_singleton.1 q;omega
theorem SvE.write {x:Nat} {s s':Sv} (h:SvE kd n e (x::es) ss is) (hs:ss[x - n]? = some s) (hw:∀ i,SvH kd e s i→SvI s' i∧SvH kd e s' i):SvE kd n e es (ss.set (x - n) s') is:=by
 have hx:=h.bnd x (by simp)
 have key:∀ (j:Nat) t i,(ss.set (x - n) s')[j]? = some t→is[j]? = some i→(j=x - n∧t=s'∧SvH kd e s i)∨(j≠x - n∧ss[j]? = some t):=fun j t i h1 h2=>by
  by_cases q:j=x - n
  ·subst q
   rw [List.getElem?_set_self (by omega)] at h1
   exact .inl ⟨rfl,(Option.some.inj h1).symm,h.half _ s i hs h2 (by rw [show n+(x - n)=x by omega];simp)⟩
  ·rw [List.getElem?_set_ne (fun z=>q z.symm)] at h1
   exact .inr ⟨q,h1⟩
 refine ⟨by rw [List.length_set];exact h.len,fun j t i h1 h2 h3=>?_,fun j t i h1 h2 h3=>?_,fun y hy=>by rw [List.length_set];exact h.bnd y (by simp [hy])⟩
 ·rcases key j t i h1 h2 with ⟨_,rfl,q⟩ | ⟨q,q2⟩
  ·exact (hw i q).1
  ·exact h.full j t i q2 h2 (fun z=>by rcases List.mem_cons.1 z with z | z;omega;exact h3 z)
 ·rcases key j t i h1 h2 with ⟨_,rfl,q⟩ | ⟨q,q2⟩
  ·exact (hw i q).2
  ·exact h.half j t i q2 h2 (by simp [h3])
end
section
variable {w0 w w' w1 wx wy:World} {B b q:Nat} {v v' v1 ov ox oy ev:Value} {ss ss':List Sv} {es:List Nat} {lo:Nat}
theorem Gs.self (h:Gs w B ov wx ox ss):Gs wx B ox wx ox ss:=⟨h.os,Kp.refl _ _,fun _ e=>.inl e,Nat.le_trans h.lo h.kp.size⟩
theorem Gs.trans (h:Gs w B ov wx ox ss) (h2:Gs wx B ox wy oy ss'):Gs w B ov wy oy ss':=by
 refine ⟨h2.os,h.kp.pass h2.kp fun x hx=>?_,fun g hg=>?_,h.lo⟩
 ·rcases h.own x (by simpa using hx) with z | z
  ·exact .inl (by simp [z])
  ·exact .inr z
 ·rcases h2.own g hg with z | z
  ·exact h.own g z
  ·exact .inr (Nat.le_trans h.kp.size z)
structure En (lo:Nat) (wx:World) (ox ev:Value) (es:List Nat):Prop where
 own:wx.ownsRow lo 3 1 ev es.length (es.map fun (j:Nat)=>Value.int .i64 j)
 ne:∀ g,ev.ownBlock=some g→ox.ownBlock≠some g
theorem En.nil (lo:Nat) (wx:World) (ox:Value):En lo wx ox (.slice none 0 0) []:=⟨World.ownsRow_nil _ _ _ _,fun g h=>by cases h⟩
theorem En.step (h:En lo wx ox ev es) (s:Gs wx B ox wy oy ss):En lo wy oy ev es:=by
 refine ⟨own_kp h.own s.kp fun g hg hm=>h.ne g hg (by simpa using hm),fun g hg hx=>?_⟩
 rcases s.own g hx with z | z
 ·exact h.ne g hg z
 ·have:=(h.own.lt g hg).2;omega
theorem En.at_ {t x:Nat} (h:En lo wx ox ev es) (ht:es[t]? = some x):∃ gk c,ev=.slice (some ⟨gk,0,none⟩) es.length c∧wx.cell? ⟨gk,t,none⟩=some (.int .i64 (x:Nat)):=by
 rcases h.own.2 with ⟨z1,z2⟩ | ⟨gk,kc,cur,z1,z2,z3,_⟩
 ·have:=(List.getElem?_eq_some_iff.1 ht).1;omega
 ·refine ⟨gk,kc,z1,?_⟩
  have:=h.own.cells (g:=gk) (by rw [z1];rfl) t (.int .i64 (x:Nat)) (by rw [List.getElem?_map,ht];rfl)
  rwa [Addr.add_mid,Nat.zero_add] at this
theorem wpList_pushI {ops:Array Oper} {rest:List Oper} {o3:Oper} {a:Act} {Q:Exit→Act→World→Prop} (g3:o3.guard=none) (sa sb:Operand) (h3:o3.op=Op.call { callee:=Callee.builtin Builtin.append,args:=#[sa,sb],argTypes:=#[60,60] }) (x:Nat) (e3:a.eval sa=ev) (e2:a.eval sb=.slice (some ⟨wx.heap.size,0,none⟩) 1 1)
  (E:En w.heap.size wx ox ev es) (G:Gs w B ov wx ox ss) (hl:es.length≤200000)
  (hn:∀ gb cap e2 wy,e2=es++[x]→En w.heap.size wy ox (.slice (some ⟨gb,0,none⟩) e2.length cap) e2→Gs w B ov wy ox ss→wpList Tryz.prog ops Q rest (a.put o3.dst (.slice (some ⟨gb,0,none⟩) e2.length cap)) wy):wpList Tryz.prog ops Q (o3::rest) a (wx.alloc (.cells #[.int .i64 (x:Nat)] 3)):=by
 obtain ⟨i0,hi,hz0,hz1,hz2⟩:=info_parts Tryz.infoIntR
 have ka:=Kp.alloc [] wx (.cells #[.int .i64 (x:Nat)] 3)
 refine wpList_app g3 _ _ 60 h3 w.heap.size 3 i0 (.int .i64 0) 1 8 Tryz.underlying60 hi hz0 hz1 hz2 rfl (by decide) ev es.length (es.map fun (j:Nat)=>Value.int .i64 j) e3 (own_kp E.own ka (by simp)) ⟨wx.heap.size,0,none⟩ 1 1 [.int .i64 (x:Nat)] e2 rfl (fun j u hu=>by rw [Addr.add_mid,Nat.zero_add];exact (Bl.alloc wx [.int .i64 (x:Nat)] 3).at_ j u hu) (fun u hu=>by simp at hu;subst hu;rfl) (by unfold maxLen;omega) (by omega) (Nat.le_trans G.kp.size ka.size) (by omega) ?_
 intro gb cap wy ho hg hor
 have kg:=kp_grownR (S:=ev.ownBlock.toList) hg (by simp)
 have hlen:(es++[x]).length=es.length+1:=by rw [List.length_append];rfl
 have:=hn gb cap (es++[x]) wy rfl ⟨by rw [hlen,List.map_append];exact ho,fun y hy hz=>?_⟩ ⟨own_kp (own_kp G.os ka (by simp)) kg fun y hy hm=>E.ne y (by simpa using hm) hy,(G.kp.pass ka (by simp)).pass kg fun y hy=>.inr (E.own.lt y (by simpa using hy)).1,G.own,G.lo⟩
 ·rw [hlen] at this;exact this
 ·have e:gb=y:=Option.some.inj hy
  subst e
  rcases hor with z | z
  ·exact E.ne _ z hz
  ·have:=(G.os.lt gb hz).2;have:=ka.size;omega
theorem StC.go2 {j:Nat} {f:Fm} {d:Nat} (h:StC w0 q j f) (k0:Kp [] w0 wx) (s:Gs w w0.heap.size ov wx ox ss) (hl:ss.length+f.1≤100000) (hd:d+f.1≤100000) :
  Calls Tryz.prog 70 #[.pointer (some ⟨q,0,none⟩),ox,.int .i64 (j:Nat),.int .i64 (d:Nat)] wx fun e wy=>∃ a c s2 ss',e=.returned (.slice a s2.length c)∧s2=ss++ss'∧SvL ss' (f.2 ss.length d)∧s2.length=ss.length+f.1∧Gs wx w0.heap.size ox wy (.slice a s2.length c) s2:=by
 refine (h.2 wx ox ss d k0 s.os hl hd).mono ?_
 intro e wy hc
 obtain ⟨oy,ss',e1,e2,e3,a,c,e4⟩:=s.self.call hc
 subst e4
 exact ⟨a,c,_,ss',e1,rfl,e2,by rw [List.length_append,e2.len,h.1],e3⟩
end
section
def fBrF:List Fm→Nat→Nat→Nat→List In
 | [],_,_,_=>[]
 | p::l,n,d,e=>noIn 4 (n+1) (n+p.1+2) 0 0::(p.2 (n+1) d++(noIn 7 e e 0 0::fBrF l (n+p.1+2) d e))
theorem fBrF_snoc:∀ (l:List Fm) (f:Fm) (n d e:Nat),fBrF (l++[f]) n d e=fBrF l n d e++((noIn 4 (n+(fLen l+2 * l.length)+1) (n+(fLen l+2 * l.length)+f.1+2) 0 0::f.2 (n+(fLen l+2 * l.length)+1) d)++[noIn 7 e e 0 0])
 | [],f,n,d,e=>by simp [fBrF,fLen]
 | p::l,f,n,d,e=>by
  have ih:=fBrF_snoc l f (n+p.1+2) d e
  have e1:fLen (p::l)=p.1+fLen l:=by simp [fLen]
  have e2:n+(fLen (p::l)+2 * (p::l).length)=n+p.1+2+(fLen l+2 * l.length):=by rw [e1,List.length_cons];omega
  rw [e2]
  show _::(_++(_::fBrF (l++[f]) (n+p.1+2) d e))=(_::(_++(_::fBrF l (n+p.1+2) d e)))++_
  rw [ih];simp only [List.cons_append,List.append_assoc]
theorem fBrs_snoc:∀ (l:List Fm) (f:Fm) (n d e:Nat),fBrs (l++[f]) n d e=fBrF l n d e++f.2 (n+(fLen l+2 * l.length)) d
 | [],f,n,d,e=>by simp [fBrs,fBrF,fLen]
 | p::l,f,n,d,e=>by
  have ih:=fBrs_snoc l f (n+p.1+2) d e
  have e1:fLen (p::l)=p.1+fLen l:=by simp [fLen]
  have e2:n+(fLen (p::l)+2 * (p::l).length)=n+p.1+2+(fLen l+2 * l.length):=by rw [e1,List.length_cons];omega
  rw [e2]
  cases l with
  | nil=>
   show fBrs [p,f] n d e=_
   rw [fBrs,fBrs,fBrF,fBrF]
   simp [fLen]
  | cons q l=>
   show fBrs (p::q::(l++[f])) n d e=(noIn 4 (n+1) (n+p.1+2) 0 0::(p.2 (n+1) d++(noIn 7 e e 0 0::fBrF (q::l) (n+p.1+2) d e)))++_
   have ih:fBrs (q::(l++[f])) (n+p.1+2) d e=_:=ih
   rw [fBrs,ih]
   simp only [List.cons_append,List.append_assoc]
theorem set_mid {α:Type} (l r:List α) (x y:α):(l++x::r).set l.length y=l++y::r:=by
 rw [List.set_append_right _ _ (Nat.le_refl _),Nat.sub_self];rfl
end
section
variable {w0 w w' w1:World} {B b q:Nat} {src:ByteArray} {k g:Nat} {bad:Int} {v v' v1:Value} {N:List Nw}
theorem fTimes_snoc (len:Nat) (em:Nat→Nat→List In):∀ (t n d:Nat),fTimes len em (t+1) n d=fTimes len em t n d++em (n+t * len) d
 | 0,n,d=>by simp [fTimes]
 | t+1,n,d=>by
  have ih:=fTimes_snoc len em t (n+len) d
  show em n d++fTimes len em (t+1) (n+len) d=(em n d++fTimes len em t (n+len) d)++_
  rw [ih,List.append_assoc,show n+len+t * len=n+(t+1) * len by rw [Nat.add_mul];omega]
theorem fUpTo_snoc (len:Nat) (em:Nat→Nat→List In):∀ (t n d e:Nat),fUpTo len em (t+1) n d e=fUpTo len em t n d e++(noIn 4 (n+t * (len+1)+1) e 0 0::em (n+t * (len+1)+1) d)
 | 0,n,d,e=>by simp [fUpTo]
 | t+1,n,d,e=>by
  have ih:=fUpTo_snoc len em t (n+len+1) d e
  show _::(em (n+1) d++fUpTo len em (t+1) (n+len+1) d e)=(_::(em (n+1) d++fUpTo len em t (n+len+1) d e))++_
  rw [ih,List.cons_append,List.append_assoc,show n+len+1+t * (len+1)=n+(t+1) * (len+1) by rw [Nat.add_mul (t) 1 (len+1)];omega]
theorem steps_star {i d:Nat} {p:Nw} {ov:Value} {ss:List Sv} (hP:Ps w0 B b q src k g bad v N) (k0:Kp [] w0 w) (hi:N[i]? = some p) (hN:N.length≤1000) (o:Os w w0.heap.size ov ss) {a j:Nat} {f:Fm} (hk:p.1.kind=7) (ha:p.1.least=(a:Int)) (ha2:a≤20) (hb:p.1.most = -1) (hll:ss.length+(a * f.1+(f.1+2))≤100000) (hd:d+(a * f.1+(f.1+2))≤100000) (hks:p.1.kids=[j]) (hKid:StC w0 q j f) :
  Calls Tryz.prog 70 #[.pointer (some ⟨q,0,none⟩),ov,.int .i64 (i:Nat),.int .i64 (d:Nat)] w (StO w w0.heap.size ov ss (fRep f.1 f.2 a none ss.length d)):=by
 have hPw:=hP.keep k0
 obtain ⟨gb,cg,hv,hlt,hcg,hcell⟩:=hPw.nodes hi
 obtain ⟨cn,hcn⟩:∃ cn,cn=ndC p.1 p.2:=⟨_,rfl⟩
 have hcl:cn.length=262:=by rw [hcn];exact ndC_len _ _
 have hc1:∀ u∈cn,u.oneCell'=true:=by rw [hcn];exact ndC_one _ (hPw.kd p (List.mem_of_getElem? hi)).one
 have RG:Hid (w.rangeAt gb (i * 262) cn):=hid (fun j u hu=>hcell j u (by rw [←hcl];exact (List.getElem?_eq_some_iff.1 hu).1) (by rw [←hcn];exact hu))
 have q0:=hPw.q0
 rw [hv] at q0
 have qi:(i:Int) < (N.length:Int):=by omega
 have qi0:(0:Int)≤(i:Int):=by omega
 have hA:=ndC_at p.1 p.2
 rw [←hcn] at hA
 obtain ⟨ka,kc,hkf,hkc⟩:=hP.kids hi
 rw [hkf] at hA
 have HA:=hid hA
 have HK:=hid hkc
 obtain ⟨xb,hxb⟩:∃ xb,xb=w.heap.size:=⟨_,rfl⟩
 obtain ⟨oa,oc,hof⟩:=o.form
 have HO:=hid (And.intro o (And.intro k0 (fun g (hg:ov.ownBlock=some g)=>o.lt g hg)))
 subst hof
 clear hkc hkf
 have HKid:=hid hKid
 clear hKid
 clear hcell hP hPw hi hv hA hcn o
 go_enter Tryz.func70,Tryz.ntmps70
 go_upto_region 2 with (first | (show wpList _ _ _ (⟨_,.load 192 _,_,_,_,_⟩::_) _ _;refine wpList_load_mid rfl 192 (.tmp 25) rfl gb (i * 262) rfl cn _ RG.out Tryz.underlying192 rfl (by rw [hcl];exact Tryz.szNodeR) ?_) | (show wpList _ _ _ (⟨_,.store 192 _ _,_,_,_,_⟩::_) _ _;refine newVarR (w1:=w) rfl 192 (.tmp 9) (.tmp 26) rfl Tryz.zeroCells192.toList 192 cn rfl rfl (by rw [hcl];kernel_rfl) (by rw [hcl];exact Tryz.szNodeR) hc1 ?_;intro wA bA kA))
 rw [←hxb] at bA ⊢
 have HX:Hid (Hx w0 w wA (.slice oa ss.length oc) xb cn):=hid ⟨bA,kA,HO.out.2.1,hxb,HO.out.2.2⟩
 have G0:=hid (HX.out.start HO.out.1)
 have c0:=bA.at_ 0 _ HA.out.1
 clear bA kA hxb RG q0 qi qi0
 rw [hk] at c0
 have dl0:=HX.out.bl.at_ 258 _ HA.out.2.2.2.1
 rw [ha] at dl0
 have hal:∀ t,t < a→(t+1) * f.1≤a * f.1:=fun t ht=>Nat.mul_le_mul_right _ ht
 have HAL:=hid hal
 clear hal
 go_wp2_with fail
 go_loopw [1,15] (fun ox kx wr=>∃ (t:Nat) (a1:Option Addr) (c:Nat) (s2 ss2:List Sv),t≤a∧kx=.int .i64 t∧ox=.slice a1 s2.length c∧Hid (s2=ss++ss2∧SvL ss2 (fTimes f.1 f.2 t ss.length d)∧s2.length=ss.length+t * f.1∧Gs wA w0.heap.size (.slice oa ss.length oc) wr (.slice a1 s2.length c) s2)) (fun _ kx _=>2000 - (intOf kx).toNat)
 case atStart=>exact ⟨0,oa,oc,ss,[],Nat.zero_le _,rfl,rfl,hid ⟨by simp,SvL.nil,by simp,G0.out⟩⟩
 case round=>
  obtain ⟨t,a2,c2,s2,ss2,ht,rfl,rfl,HR⟩:=hrel
  have dl:=(HX.out.bl' HR.out.2.2.2).at_ 258 _ HA.out.2.2.2.1
  rw [ha] at dl
  by_cases htl:t < a
  ·have q1:(t:Int) < (a:Int):=by omega
   have q2:(0:Int)≤(t:Int):=by omega
   have hc1':IntKind.i64.wrap ((t:Int)+1)=((t+1:Nat):Int):=wrap_i64_succ t (t+1) rfl (by omega)
   have dk:=(HX.out.bl' HR.out.2.2.2).at_ 260 _ HA.out.2.2.2.2.2.1
   obtain ⟨gk,e1,e2,e3⟩:=HK.out 0 j (by rw [hks];rfl)
   have dj:=((HX.out.kp HR.out.2.2.2).cell (p:=⟨gk,0,none⟩) e2 (by simp)).trans e3
   rw [e1,hks] at dk
   have dk:wr.cell? ⟨xb,260,none⟩=some (.slice (some ⟨gk,0,none⟩) 1 kc):=dk
   have hb1:(t+1) * f.1≤a * f.1:=HAL.out t htl
   have hb2:t * f.1+f.1≤a * f.1:=by rw [Nat.add_mul] at hb1;omega
   clear e1 e2 e3 hb1
   go_wp2_with fail
   refine (HKid.out.go HX.out HR.out.2.2.2 (by have:=HR.out.2.2.1;omega) (by omega)).mono ?_
   rintro e w3 ⟨a3,c3,s3,ss3,rfl,hs3,hS3,hl3,G3⟩
   have H3:=hid (And.intro hs3 (And.intro hS3 (And.intro hl3 G3)))
   clear hs3 hS3 hl3 G3 dk dj dl
   go_wp2_with fail
   go_roundw
   ·obtain ⟨hs3,hS3,hl3,G3⟩:=H3.out
    obtain ⟨hs2,hS2,hl2,G2⟩:=HR.out
    rw [hl2] at hS3
    refine ⟨t+1,a3,c3,s3,ss2++ss3,by omega,by go_num,rfl,hid ⟨by rw [hs3,hs2,List.append_assoc],?_,by rw [Nat.add_mul];omega,G3⟩⟩
    rw [fTimes_snoc]
    exact hS2.app hS3
   ·simp [intOf];omega
  ·have q1:¬ (t:Int) < (a:Int):=by omega
   have et:t=a:=by omega
   subst et
   have dm:=(HX.out.bl' HR.out.2.2.2).at_ 259 _ HA.out.2.2.2.2.1
   rw [hb] at dm
   have l2b:s2.length+f.1+2≤100000:=by have:=HR.out.2.2.1;omega
   obtain ⟨lx,hlx⟩:∃ lx,lx=s2.length+1:=⟨_,rfl⟩
   have hw1:IntKind.i64.wrap ((s2.length:Int)+1)=(lx:Int):=by rw [hlx];exact wrap_i64_succ s2.length (s2.length+1) rfl (by omega)
   have hwd:IntKind.i64.wrap ((d:Int)+1)=((d+1:Nat):Int):=wrap_i64_succ d (d+1) rfl (by omega)
   have HBL:Hid (Tryz.prog.built 186 [(0,.int .i64 11),(3,.int .i64 (lx:Int))]=some (svC ⟨11,noBytes,0,lx,0,0⟩).toArray):=hid (built_fork (lx:Int))
   have HLX:=hid hlx
   have GS:=hid HR.out.2.2.2
   clear hlx
   go_upto_region 43 with (show wpList _ _ _ (⟨_,.build 186 _,_,_,_,_⟩::_) _ _;refine wpList_push rfl rfl rfl [(0,.const (.int .i64 11)),(3,.tmp 194)] rfl (.tmp 195) rfl (.tmp 192) (.tmp 196) rfl _ ⟨11,noBytes,0,lx,0,0⟩ rfl HBL.out (fun _=>rfl) (fun _ _=>rfl) (fun _ _=>rfl) GS.out (by omega) ?_)
   intro gb3 c3 s3 w3 cc hs3 G3
   have HS3:Hid (s3=s2++[⟨11,noBytes,0,lx,0,0⟩]∧s3.length=s2.length+1∧Gs wA w0.heap.size (.slice oa ss.length oc) w3 (.slice (some ⟨gb3,0,none⟩) s3.length c3) s3):=hid ⟨hs3,by rw [hs3,List.length_append];rfl,G3⟩
   have dk:=(HX.out.bl' G3).at_ 260 _ HA.out.2.2.2.2.2.1
   obtain ⟨gk,e1,e2,e3⟩:=HK.out 0 j (by rw [hks];rfl)
   have dj:=((HX.out.kp G3).cell (p:=⟨gk,0,none⟩) e2 (by simp)).trans e3
   rw [e1,hks] at dk
   have dk:w3.cell? ⟨xb,260,none⟩=some (.slice (some ⟨gk,0,none⟩) 1 kc):=dk
   clear hs3 G3 hw1 e1 e2 e3 dm dl
   go_wp2_with fail
   refine (HKid.out.go (d:=d+1) HX.out HS3.out.2.2 (by have:=HS3.out.2.1;omega) (by omega)).mono ?_
   rintro e w4 ⟨a4,c4,s4,ss4,rfl,hs4,hS4,hl4,G4⟩
   have HS4:=hid (And.intro hs4 (And.intro hS4 hl4))
   have GS4:=hid G4
   have l4b:s4.length≤100002:=by have:=HS3.out.2.1;omega
   have HB4:Hid (Tryz.prog.built 186 [(0,.int .i64 14),(3,.int .i64 (s2.length:Int)),(5,.int .i64 ((d+1:Nat):Int))]=some (svC ⟨14,noBytes,0,s2.length,0,d+1⟩).toArray):=hid (built_turn (s2.length:Int) ((d+1:Nat):Int))
   clear hs4 hS4 hl4 G4 dk dj
   go_upto_region 45 with (show wpList _ _ _ (⟨_,.build 186 _,_,_,_,_⟩::_) _ _;refine wpList_push rfl rfl rfl [(0,.const (.int .i64 14)),(3,.tmp 208),(5,.tmp 210)] rfl (.tmp 211) rfl (.tmp 207) (.tmp 212) rfl _ ⟨14,noBytes,0,s2.length,0,d+1⟩ rfl HB4.out (fun _=>rfl) (fun _ _=>rfl) (fun _ _=>rfl) GS4.out (by omega) ?_)
   intro gb6 c6 s6 w6 cc6 hs6 G6
   have es6:s6=s2++(⟨11,noBytes,0,lx,0,0⟩::(ss4++[⟨14,noBytes,0,s2.length,0,d+1⟩])):=by rw [hs6,HS4.out.1,HS3.out.1];simp only [List.append_assoc,List.cons_append,List.nil_append]
   have hl6:s6.length=s4.length+1:=by rw [hs6,List.length_append];rfl
   have g6:s6[s2.length]? = some ⟨11,noBytes,0,lx,0,0⟩:=by rw [es6,List.getElem?_append_right (Nat.le_refl _),Nat.sub_self];rfl
   have dy:=G6.cell g6 (svC_at _).2.2.2.2.1
   have fy:=G6.os.frozenAt (s2.length * 261+259)
   have q6:(s2.length:Int) < (s6.length:Int):=by have:=HS4.out.2.2;have:=HS3.out.2.1;omega
   have q60:(0:Int)≤(s2.length:Int):=by omega
   obtain ⟨w7,hw7⟩:∃ w7,w7=w6.setCell ⟨gb6,s2.length * 261+259,none⟩ (.int .i64 (s6.length:Nat)):=⟨_,rfl⟩
   have G7:=G6.set (i:=s2.length) (j:=259) (s':=⟨11,noBytes,0,lx,s6.length,0⟩) rfl g6 (by decide) (svC_y ⟨11,noBytes,0,lx,0,0⟩ s6.length)
   rw [←hw7] at G7
   have HS7:=hid (And.intro es6 (And.intro hl6 G7))
   clear hs6 es6 hl6 g6 G6 G7
   go_upto_region 46 with fail
   rw [←hw7]
   clear hw7 dy fy
   go_wp2_with fail
   go_ret
   obtain ⟨es6,hl6,G7⟩:=HS7.out
   obtain ⟨hs4,hS4,hl4⟩:=HS4.out
   obtain ⟨hs3,hl3,_⟩:=HS3.out
   obtain ⟨hs2,hS2,hl2,_⟩:=HR.out
   have hx:=HLX.out
   have e7:∀ y,s6.set s2.length ⟨11,noBytes,0,lx,y,0⟩=ss++(ss2++([⟨11,noBytes,0,lx,y,0⟩]++(ss4++[⟨14,noBytes,0,s2.length,0,d+1⟩]))):=fun y=>by
    rw [es6,set_mid]
    conv=>lhs;rw [show ∀ r:List Sv,s2++r=ss++ss2++r from fun r=>by rw [hs2]]
    simp only [List.append_assoc,List.cons_append,List.nil_append]
   rw [e7] at G7
   refine HX.out.out G7 ?_
   have hF:SvI ⟨11,noBytes,0,lx,s6.length,0⟩ (noIn 4 (ss.length+t * f.1+1) (ss.length+t * f.1+f.1+2) 0 0):=⟨rfl,by show lx=ss.length+t * f.1+1;omega,by show s6.length=ss.length+t * f.1+f.1+2;omega,rfl⟩
   have hT:SvI ⟨14,noBytes,0,s2.length,0,d+1⟩ (noIn 5 (ss.length+t * f.1) 0 0 d):=⟨rfl,by show s2.length=ss.length+t * f.1;omega,rfl⟩
   rw [hl3,hl2] at hS4
   exact hS2.app (SvL.app (SvL.one hF) (hS4.app (SvL.one hT)))
end
