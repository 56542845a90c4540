import Derived.Test.YtnfglkdkmcocnaaGreatDoorR32
import Derived.Test.YtnfglkdkmcocnaaGreatDoorR43
import Derived.Test.YtnfglkdkmcocnaaGreatDoorR44
set_option maxRecDepth 100000
set_option maxHeartbeats 16000000
set_option linter.all false
namespace Go.Proofs.YtnfglkdkmcocnaaGreatDoor
open Go.RowKit
section
variable {w w' w1:World} {B b q:Nat} {src:ByteArray} {k g:Nat} {bad:Int} {v v' v1:Value} {N:List Nw}
theorem Ks.congr {m n:Nat} {kv:Value} {Vs Vs':List Rt} (h:Ks w m kv n Vs) (hl:Vs.length=Vs'.length) (he:∀ (t:Nat) V V',Vs[t]? = some V→Vs'[t]? = some V'→Eqw n V V'):Ks w m kv n Vs':=by
 rcases h with ⟨h,e⟩ | ⟨kb,c,h1,h2,h3,h4⟩
 ·exact .inl ⟨h,List.eq_nil_of_length_eq_zero (by rw [←hl,e];rfl)⟩
 ·refine .inr ⟨kb,c,by rw [←hl];exact h1,by omega,h3,fun j V' hj=>?_⟩
  obtain ⟨V,hV⟩:∃ V,Vs[j]? = some V:=⟨_,List.getElem?_eq_getElem (by rw [hl];exact (List.getElem?_eq_some_iff.1 hj).1)⟩
  obtain ⟨tv,e1,e2⟩:=h4 j V hV
  exact ⟨tv,e1,e2.congr fun a ha=>he j V V' hV hj a ha⟩
abbrev kidT (text:ByteArray) (f:Nat→Pn) (js:List Nat):List Rt:=js.map fun j=>(f j).vt text
theorem table_any {m i:Nat} {text:ByteArray} {kidv:Value} {f:Nat→Pn} {y:Pn} (hP:Ps w B b q src k g bad v N) (hN:N.length≤1000) (hn:text.size≤900) (hm:m≤w.heap.size) (hr:Rp N i y) :
  y.Ok→(∀ p,N[i]? = some p→p.1.kids.length≤1000)→(∀ j,j < i→Rp N j (f j))→(∀ p,N[i]? = some p→Ks w m kidv text.size (kidT text f p.1.kids)) →
  ∃ V,Eqw text.size V (y.vt text)∧Calls Tryz.prog 71 #[.pointer (some ⟨q,0,none⟩),.int .i64 (i:Nat),.string text,kidv] w fun e w'=>∃ ov,e=.returned ov∧RpS w text.size V ov w':=by
 have hN':N.length≤100000:=by omega
 induction hr with
 | one hi hk hz hm'=>
  intro hok hkl hf hK
  exact ⟨_,by rw [Pn.vt];exact Eqw.refl _ _,table_one hP hi hN' hn hk hm'⟩
 | edge hi he hk hz=>
  intro hok hkl hf hK
  exact ⟨_,by rw [Pn.vt];exact Eqw.refl _ _,table_edge hP hi hN' hn he hk⟩
 | @group i j p gn x hi hk hg hs hj hz h _=>
  intro hok hkl hf hK
  have K:=hK p hi
  rw [hs] at K
  have K':Ks w m kidv text.size [x.vt text]:=K.congr rfl fun t V V' h1 h2=>by
   match t,h1,h2 with
   | 0,h1,h2=>cases h1;cases h2;exact rp_eqw (hf j hj) x h
  have h9:gn≤9:=by cases hok;assumption
  exact ⟨_,by rw [Pn.vt];exact Eqw.refl _ _,table_group hP hi hN' hn hm K' (Mng.vt text x) hk hg h9⟩
 | @rep i j p x a bo hi hk ha hb hs hj hz h _=>
  intro hok hkl hf hK
  have K:=hK p hi
  rw [hs] at K
  have K':Ks w m kidv text.size [x.vt text]:=K.congr rfl fun t V V' h1 h2=>by
   match t,h1,h2 with
   | 0,h1,h2=>cases h1;cases h2;exact rp_eqw (hf j hj) x h
  have hB:okB a bo:=by cases hok;assumption
  have ha2:a≤20:=by
   cases bo with
   | none=>exact hB
   | some u=>exact Nat.le_trans hB.1 hB.2
  exact ⟨_,by rw [Pn.vt];exact Eqw.refl _ _,table_rep hP hi hN' hn hm K' (Mng.vt text x) hk ha ha2 (hb.trans (by cases bo <;> rfl)) (fun u e=>by subst e;exact hB)⟩
 | @row i p xs hi hk hl hj hz h _=>
  intro hok hkl hf hK
  have K':Ks w m kidv text.size (vtL text xs):=(hK p hi).congr (by rw [vtL_map,List.length_map,List.length_map];exact hl) fun t V V' h1 h2=>by
   rw [List.getElem?_map] at h1
   rw [vtL_get] at h2
   obtain ⟨j,e1,rfl⟩:=Option.map_eq_some_iff.1 h1
   obtain ⟨x,e2,rfl⟩:=Option.map_eq_some_iff.1 h2
   exact rp_eqw (hf j (hj t j e1)) x (h t j x e1 e2)
  exact ⟨_,by rw [Pn.vt];exact Eqw.refl _ _,table_row hP hi hN' hn hm K' (Mng.vtL text xs) (by rw [vtL_map,List.length_map,←hl];have:=hkl p hi;omega) hk⟩
 | @brs1 i x _ ih=>
  intro hok hkl hf hK
  have hx:x.Ok:=by cases hok with | brs _ h=>exact h _ (by simp)
  obtain ⟨V,e1,e2⟩:=ih hx hkl hf hK
  exact ⟨V,e1.trans (vt_brs1 text _).symm,e2⟩
 | @brs i p xs hi hk h2 hl hj hz h _=>
  intro hok hkl hf hK
  have K':Ks w m kidv text.size (vtL text xs):=(hK p hi).congr (by rw [vtL_map,List.length_map,List.length_map];exact hl) fun t V V' h1 h2=>by
   rw [List.getElem?_map] at h1
   rw [vtL_get] at h2
   obtain ⟨j,e1,rfl⟩:=Option.map_eq_some_iff.1 h1
   obtain ⟨x,e2,rfl⟩:=Option.map_eq_some_iff.1 h2
   exact rp_eqw (hf j (hj t j e1)) x (h t j x e1 e2)
  exact ⟨_,by rw [Pn.vt];exact Eqw.refl _ _,table_brs hP hi hN' hn hm K' (Mng.vtL text xs) (by rw [vtL_map,List.length_map,←hl];have:=hkl p hi;omega) hk⟩
end
section
variable {w w' w0 wr wx w8:World} {n m:Nat}
theorem Tw.app {m':Nat} {S:List Nat} {tb c:Nat} {T:Nat→List (Nat×Zt)} (h:Tw w m (.slice (some ⟨tb,0,none⟩) (n+1) c) n T) (hm:m≤w.heap.size) (k:Kp S w w') (ht:tb∉S) (hS:∀ g∈S,∃ x y z,w.cell? ⟨g,0,none⟩=some (.slice x y z)) (hm':m≤m'):Tw w' m' (.slice (some ⟨tb,0,none⟩) (n+1) c) n T:=by
 obtain ⟨tb',c',e,q2,q3,q4⟩:=h
 obtain ⟨rfl,rfl⟩:tb=tb'∧c=c':=by injection e with e1 _ e3;injection e1 with e1;injection e1 with e1 _ _;exact ⟨e1,e3⟩
 refine ⟨tb,c,rfl,q2,by omega,fun a ha=>?_⟩
 obtain ⟨lv,e1,e2⟩:=q4 a ha
 refine ⟨lv,(k.cell (p:=⟨tb,a,none⟩) (by show tb < _;omega) ht).trans e1,?_⟩
 rcases e2 with e2 | ⟨gb,cc,z1,z2,z3,z4⟩
 ·exact .inl e2
 ·by_cases hg:gb∈S
  ·by_cases hn:T a=[]
   ·exact .inr ⟨gb,cc,z1,z2,by omega,fun j u hu=>by rw [hn] at hu;simp [flatW] at hu⟩
   ·exfalso
    obtain ⟨x,y,z,hc⟩:=hS gb hg
    obtain ⟨p,hp⟩:∃ p,(T a)[0]? = some p:=⟨_,List.getElem?_eq_getElem (List.length_pos_iff.2 hn)⟩
    have h0:=z4 0 (.int .i64 (p.1:Nat)) (by have:=flatW_at (T a) 0 p hp 0 (by omega);rw [Nat.zero_mul] at this;rw [this];exact (wyC_at p).1)
    rw [hc] at h0
    cases h0
  ·exact .inr ⟨gb,cc,z1,z2,by omega,fun j u hu=>(k.cell (p:=⟨gb,j,none⟩) (by show gb < _;omega) hg).trans (z4 j u hu)⟩
structure Al (B:Nat) (wr:World) (av:Value) (n:Nat) (Us:List Rt) (vs:List Value):Prop where
 own:wr.ownsRow B 117 1 av Us.length vs
 tb:∀ (j:Nat) (U:Rt),Us[j]? = some U→∃ tb c,vs[j]? = some (.slice (some ⟨tb,0,none⟩) (n+1) c)∧Tw wr wr.heap.size (.slice (some ⟨tb,0,none⟩) (n+1) c) n (ddR U)∧av.ownBlock≠some tb
 nl:Us=[]→av=.slice none 0 0
variable {B:Nat} {av:Value} {Us:List Rt} {vs:List Value}
theorem Al.nil (B:Nat) (wr:World) (n:Nat):Al B wr (.slice none 0 0) n [] []:=⟨World.ownsRow_nil _ _ _ _,fun j U h=>by simp at h,fun _=>rfl⟩
theorem Al.form (h:Al B wr av n Us vs):∃ a c,av=.slice a Us.length c:=by
 rcases h.own.2 with ⟨q1,q2⟩ | ⟨gb,c,cur,q1,_⟩
 ·exact ⟨none,0,by rw [q1,q2]⟩
 ·exact ⟨_,c,q1⟩
theorem Al.keep (h:Al B wr av n Us vs) (k:Kp [] wr wx):Al B wx av n Us vs:=
 ⟨own_kp h.own k (by simp),fun j U hj=>by
   obtain ⟨tb,c,e1,e2,e3⟩:=h.tb j U hj
   exact ⟨tb,c,e1,e2.keep k (Nat.le_refl _) (by simp) k.size,e3⟩,h.nl⟩
theorem Al.first (h:Al B wr av n Us vs):∀ g∈av.ownBlock.toList,∃ x y z,wr.cell? ⟨g,0,none⟩=some (.slice x y z):=fun g hg=>by
 have hg:av.ownBlock=some g:=by simpa using hg
 cases hU:Us with
 | nil=>rw [h.nl hU] at hg;cases hg
 | cons U Us'=>
  obtain ⟨tb,c,e1,_,_⟩:=h.tb 0 U (by rw [hU];rfl)
  have:=h.own.cells (g:=g) hg 0 _ e1
  rw [Addr.add_mid,Nat.zero_add] at this
  exact ⟨_,_,_,this⟩
theorem Al.far {S:List Nat} (h:Al B wr av n Us vs) (k:Kp S wr wx) (hS:∀ g∈S,∃ x y z,wr.cell? ⟨g,0,none⟩=some (.slice x y z)) (ha:∀ g,av.ownBlock=some g→g∉S) (ht:∀ (j:Nat) tb c,vs[j]? = some (.slice (some ⟨tb,0,none⟩) (n+1) c)→tb∉S):Al B wx av n Us vs:=
 ⟨own_kp h.own k ha,fun j U hj=>by
   obtain ⟨tb,c,e1,e2,e3⟩:=h.tb j U hj
   exact ⟨tb,c,e1,e2.app (Nat.le_refl _) k (ht j tb c e1) hS k.size,e3⟩,h.nl⟩
theorem Al.push {tb c gb cap:Nat} {U:Rt} (h:Al B wr av n Us vs) (hT:Tw wr wr.heap.size (.slice (some ⟨tb,0,none⟩) (n+1) c) n (ddR U)) (hne:av.ownBlock≠some tb) (ka:Kp [] wr wx)
  (own:w8.ownsRow B 117 1 (.slice (some ⟨gb,0,none⟩) (Us.length+1) cap) (Us.length+1) (vs++[.slice (some ⟨tb,0,none⟩) (n+1) c])) (hg:wx.grownBy w8 av.ownBlock) (hor:av.ownBlock=some gb∨wx.heap.size≤gb) :
  Al B w8 (.slice (some ⟨gb,0,none⟩) (Us.length+1) cap) n (Us++[U]) (vs++[.slice (some ⟨tb,0,none⟩) (n+1) c])∧Kp av.ownBlock.toList wr w8:=by
 have kk:Kp av.ownBlock.toList wr w8:=(ka.mono (by simp)).trans (kp_grownR hg (by simp))
 have sa:=ka.size
 have hlt:∀ {tb c:Nat} {U:Rt},Tw wr wr.heap.size (.slice (some ⟨tb,0,none⟩) (n+1) c) n (ddR U)→tb < wr.heap.size:=fun {tb c U} h=>by
  obtain ⟨tb',c',e,_,q3,_⟩:=h
  injection e with e1 _ _;injection e1 with e1;injection e1 with e1 _ _;omega
 have one:∀ {tb c:Nat} {U:Rt},Tw wr wr.heap.size (.slice (some ⟨tb,0,none⟩) (n+1) c) n (ddR U)→av.ownBlock≠some tb→Tw w8 w8.heap.size (.slice (some ⟨tb,0,none⟩) (n+1) c) n (ddR U)∧(Value.slice (some ⟨gb,0,none⟩) (Us.length+1) cap).ownBlock≠some tb:=fun {tb c U} hT hne=>by
  refine ⟨hT.app (Nat.le_refl _) kk (fun hm=>hne (by simpa using hm)) h.first kk.size,fun e=>?_⟩
  have e:gb=tb:=Option.some.inj e
  rcases hor with z | z
  ·exact hne (by rw [z,e])
  ·have:=hlt hT;omega
 have hvl:vs.length=Us.length:=by have:=h.own.1;omega
 refine ⟨⟨by rw [List.length_append];exact own,fun j V hj=>?_,fun e=>by simp at e⟩,kk⟩
 by_cases hjl:j < Us.length
 ·rw [List.getElem?_append_left hjl] at hj
  obtain ⟨tb1,c1,e1,e2,e3⟩:=h.tb j V hj
  exact ⟨tb1,c1,by rw [List.getElem?_append_left (by omega)];exact e1,one e2 e3⟩
 ·rw [List.getElem?_append_right (by omega)] at hj
  have ej:j - Us.length=0:=by
   rcases Nat.eq_zero_or_pos (j - Us.length) with e | e
   ·exact e
   ·rw [List.getElem?_eq_none (by simp;omega)] at hj;cases hj
  rw [ej] at hj
  cases hj
  exact ⟨tb,c,by rw [List.getElem?_append_right (by omega),hvl,ej];rfl,one hT hne⟩
theorem Al.ks (h:Al B wr av n Us vs):Ks wr wr.heap.size av n Us:=by
 rcases h.own.2 with ⟨q1,q2⟩ | ⟨gb,c,cur,q1,_,q3,q4,_⟩
 ·exact .inl ⟨q1,List.eq_nil_of_length_eq_zero q2⟩
 ·refine .inr ⟨gb,c,q1,q4,lt_of_block q3,fun j U hj=>?_⟩
  obtain ⟨tb,ct,e1,e2,_⟩:=h.tb j U hj
  have:=h.own.cells (g:=gb) (by rw [q1];rfl) j _ e1
  rw [Addr.add_mid,Nat.zero_add] at this
  exact ⟨_,this,e2⟩
end
section
variable {w w' w1:World} {B b q:Nat} {src:ByteArray} {k g:Nat} {bad:Int} {v v' v1:Value} {N:List Nw}
theorem Tryz.infoTb:(Tryz.prog.info? 117).map (fun i=>(i.zero,i.size,i.bytes))=some (some (.slice none 0 0),1,24):=by kernel_rfl
def pickP (ys:List Pn) (j:Nat):Pn:=(ys[j]?).getD (.row [])
theorem pickP_at {ys:List Pn} {j:Nat} {y:Pn} (h:ys[j]? = some y):pickP ys j=y:=by unfold pickP;rw [h];rfl
theorem own_cell {wr:World} {Bs:Nat} {e:TypeId} {g n c:Nat} {xs:List Value} (h:wr.ownsRow Bs e 1 (.slice (some ⟨g,0,none⟩) n c) n xs) {j:Nat} {u:Value} (hj:xs[j]? = some u):wr.cell? ⟨g,j,none⟩=some u:=by
 have:=h.cells (g:=g) rfl j u hj
 rwa [Addr.add_mid,Nat.zero_add] at this
theorem ways_any {text:ByteArray} {x:Pn} (hP:Ps w B b q src k g bad v N) (hN:N.length≤1000) (hN0:0 < N.length) (hn:text.size≤900) (hall:∀ j,j < N.length→∃ y,Rp N j y∧y.Ok∧∀ p,N[j]? = some p→p.1.kids.length≤1000∧∀ c∈p.1.kids,c < j) (hx:Rp N (N.length - 1) x) :
  Calls Tryz.prog 39 #[.pointer (some ⟨q,0,none⟩),.string text] w fun e w'=>∃ tv,e=.returned tv∧Tw w' w'.heap.size tv text.size (ddR (x.vt text))∧Kp [] w w':=by
 obtain ⟨j0,hj,hy0,hy1,hy2⟩:=info_parts Tryz.infoTb
 have HJ:=hid (And.intro hj (And.intro hy0 (And.intro hy1 hy2)))
 clear hj hy0 hy1 hy2
 obtain ⟨gb,cg,hv⟩:∃ gb cg,v=.slice (some ⟨gb,0,none⟩) N.length cg:=by
  obtain ⟨gb,cg,e,_⟩:=hP.nodes (i:=0) (p:=N[0]) (List.getElem?_eq_getElem hN0)
  exact ⟨gb,cg,e⟩
 subst hv
 have HP:=hid hP
 have HL:=hid hall
 have HX:=hid hx
 clear hP hall hx
 go_enter Tryz.func39,Tryz.ntmps39
 go_wp2_with fail
 go_loopw [5,6] (fun av iv wr=>∃ (i:Nat) (ys:List Pn) (vs:List Value),i≤N.length∧iv=.int .i64 i∧Kp [] w wr∧Al w.heap.size wr av text.size (ys.map (Pn.vt text)) vs∧ys.length=i∧Hid (∀ (j:Nat) (y:Pn),ys[j]? = some y→Rp N j y)) (fun _ iv _=>2000 - (intOf iv).toNat)
 case atStart=>exact ⟨0,[],[],Nat.zero_le _,rfl,Kp.refl _ _,Al.nil _ _ _,rfl,hid (fun j y h=>by simp at h)⟩
 case round=>
  obtain ⟨i,ys,vs,hi,rfl,kr,hal,hyl,hys⟩:=hrel
  have Pr':=HP.out.keep kr
  have q0:=Pr'.q0
  by_cases hlt:i < N.length
  ·have q1:(i:Int) < (N.length:Int):=by omega
   have q2:(0:Int)≤(i:Int):=by omega
   have hc1:IntKind.i64.wrap ((i:Int)+1)=((i+1:Nat):Int):=wrap_i64_succ i (i+1) rfl (by omega)
   have hgi:N[i]? = some N[i]:=List.getElem?_eq_getElem hlt
   obtain ⟨p,hp⟩:∃ p,N[i]=p:=⟨_,rfl⟩
   rw [hp] at hgi
   obtain ⟨y,hy,hyo,hyk⟩:=HL.out i hlt
   obtain ⟨hkl,hkj⟩:=hyk p hgi
   obtain ⟨js,hjs⟩:∃ js,p.1.kids=js:=⟨_,rfl⟩
   rw [hjs] at hkl hkj
   have kd:=Pr'.kd p (List.mem_of_getElem? hgi)
   rw [hjs] at kd
   obtain ⟨ka,kc,hkf⟩:∃ a c,p.2=.slice a js.length c:=by
    rcases kd.own.2 with ⟨z1,z2⟩ | ⟨gk,c,cur,z1,_⟩
    ·exact ⟨none,0,by rw [z1,z2]⟩
    ·exact ⟨_,c,z1⟩
   obtain ⟨gb',c',e1,_,_,hcell⟩:=Pr'.nodes hgi
   obtain ⟨rfl,_⟩:gb=gb'∧True:=by injection e1 with e1 _ _;injection e1 with e1;injection e1 with e1 _ _;exact ⟨e1,trivial⟩
   have d260:=hcell 260 _ (by omega) (ndC_at p.1 p.2).2.2.2.2.2.1
   rw [hkf] at d260 kd
   obtain ⟨a0,c0,hf0⟩:=hal.form
   rw [List.length_map,hyl] at hf0
   subst hf0
   obtain ⟨wi,hwi⟩:∃ wi,wi=wr:=⟨_,rfl⟩
   rw [←hwi] at hal kr kd d260 q0 ⊢
   have htlt:∀ (j:Nat) tb c,vs[j]? = some (.slice (some ⟨tb,0,none⟩) (text.size+1) c)→tb < wi.heap.size:=fun j tb c hj=>by
    have hjl:j < (ys.map (Pn.vt text)).length:=by have:=(List.getElem?_eq_some_iff.1 hj).1;have:=hal.own.1;omega
    obtain ⟨tb',c',e1,⟨tb2,c2,e,_,q3,_⟩,_⟩:=hal.tb j _ (List.getElem?_eq_getElem hjl)
    rw [hj] at e1
    injection e1 with e1;injection e1 with e1 _ _;injection e1 with e1;injection e1 with e1 _ _
    injection e with e _ _;injection e with e;injection e with e _ _
    omega
   have hf:∀ j,j < i→Rp N j (pickP ys j):=fun j hj=>by
    obtain ⟨y,hy⟩:∃ y,ys[j]? = some y:=⟨_,List.getElem?_eq_getElem (by omega)⟩
    rw [pickP_at hy];exact hys.out j y hy
   have HR:=hid (And.intro hal (And.intro kr (And.intro kd (And.intro d260 (And.intro q0 (And.intro hgi (And.intro hy (And.intro hyo (And.intro hyl (And.intro hjs (And.intro htlt (And.intro hf (And.intro hkj hyk)))))))))))))
   have hwlt:w.heap.size≤wi.heap.size:=kr.size
   clear hal kr kd d260 hgi hy hyo hyl hjs hwi htlt hf Pr' hcell e1 hp hkf hyk hkj
   go_wp2_with fail
   go_loopw [7,8] (fun kv tx wx=>∃ (t:Nat) (us:List Value),t≤js.length∧tx=.int .i64 t∧Al wi.heap.size wx kv text.size (kidT text (pickP ys) (js.take t)) us∧Al w.heap.size wx (.slice a0 i c0) text.size (ys.map (Pn.vt text)) vs∧Kp [] wi wx) (fun _ tx _=>2000 - (intOf tx).toNat)
   case atStart=>exact ⟨0,[],Nat.zero_le _,rfl,Al.nil _ _ _,HR.out.1,Kp.refl _ _⟩
   case round=>
    obtain ⟨t,us,ht,rfl,hks,hal,kx⟩:=hrel
    obtain ⟨_,kr,kd,d260,q0,hgi,hy,hyo,hyl,hjs,htlt,hf,hkj,hyk⟩:=HR.out
    have d260x:=(kx.cell (World.block_lt_of_cell? _ _ d260) (by simp)).trans d260
    have q0x:=(kx.cell (World.block_lt_of_cell? _ _ q0) (by simp)).trans q0
    by_cases htl:t < js.length
    ·have q3:(t:Int) < (js.length:Int):=by omega
     have q4:(0:Int)≤(t:Int):=by omega
     have hc2:IntKind.i64.wrap ((t:Int)+1)=((t+1:Nat):Int):=wrap_i64_succ t (t+1) rfl (by omega)
     have hgt:js[t]? = some js[t]:=List.getElem?_eq_getElem htl
     obtain ⟨j,hj⟩:∃ j,js[t]=j:=⟨_,rfl⟩
     rw [hj] at hgt
     have hji:j < i:=hkj j (List.mem_of_getElem? hgt)
     obtain ⟨gk,hgk⟩:∃ gk,ka=some ⟨gk,0,none⟩:=by
      rcases kd.own.2 with ⟨_,z2⟩ | ⟨gk,cc,cur,z1,_⟩
      ·omega
      ·injection z1 with z1 _ _;exact ⟨gk,z1⟩
     subst hgk
     have dk:=own_cell kd.own (j:=t) (u:=.int .i64 (j:Nat)) (by rw [List.getElem?_map,hgt];rfl)
     have dkx:=(kx.cell (World.block_lt_of_cell? _ _ dk) (by simp)).trans dk
     have hoa:=hal.own
     rw [List.length_map,hyl] at hoa
     obtain ⟨ga,hga⟩:∃ ga,a0=some ⟨ga,0,none⟩:=by
      rcases hoa.2 with ⟨_,z2⟩ | ⟨ga,cc,cur,z1,_⟩
      ·omega
      ·injection z1 with z1 _ _;exact ⟨ga,z1⟩
     subst hga
     obtain ⟨y2,hy2⟩:∃ y2,ys[j]? = some y2:=⟨_,List.getElem?_eq_getElem (by omega)⟩
     obtain ⟨tbj,cj,e1,e2,_⟩:=hal.tb j (y2.vt text) (by rw [List.getElem?_map,hy2];rfl)
     have daj:=own_cell hoa e1
     have hoal:=hoa.lt ga rfl
     have q5:(j:Int) < (i:Int):=by omega
     have q6:(0:Int)≤(j:Int):=by omega
     have hkl2:(kidT text (pickP ys) (js.take t)).length=t:=by rw [List.length_map,List.length_take];omega
     have hok:=hks.own
     rw [hkl2] at hok
     have OWN:Hid ((wr.alloc (.cells #[.slice (some ⟨tbj,0,none⟩) (text.size+1) cj] 117)).ownsRow wi.heap.size 117 1 u7 t us):=hid (own_kp hok (Kp.alloc [] wr _) (by simp))
     have HSZ:Hid (wi.heap.size≤(wr.alloc (.cells #[.slice (some ⟨tbj,0,none⟩) (text.size+1) cj] 117)).heap.size):=hid (Nat.le_trans kx.size (Kp.alloc [] wr _).size)
     have hoai:ga < wi.heap.size:=by
      have:=(HR.out.1.own.lt ga rfl).2
      exact this
     have fin:∀ (w8:World) (gb2 cap:Nat),w8.ownsRow wi.heap.size 117 1 (.slice (some ⟨gb2,0,none⟩) (t+1) cap) (t+1) (us++[.slice (some ⟨tbj,0,none⟩) (text.size+1) cj])→(wr.alloc (.cells #[.slice (some ⟨tbj,0,none⟩) (text.size+1) cj] 117)).grownBy w8 u7.ownBlock→(u7.ownBlock=some gb2∨(wr.alloc (.cells #[.slice (some ⟨tbj,0,none⟩) (text.size+1) cj] 117)).heap.size≤gb2) →
       Al wi.heap.size w8 (.slice (some ⟨gb2,0,none⟩) (t+1) cap) text.size (kidT text (pickP ys) (js.take (t+1))) (us++[.slice (some ⟨tbj,0,none⟩) (text.size+1) cj])∧Al w.heap.size w8 (.slice (some ⟨ga,0,none⟩) i c0) text.size (ys.map (Pn.vt text)) vs∧Kp [] wi w8:=by
      intro w8 gb2 cap ho hg hor
      have hlo:∀ x,u7.ownBlock=some x→wi.heap.size≤x:=fun x hx=>(hok.lt x hx).1
      have hne:u7.ownBlock≠some tbj:=fun e=>by have:=hlo tbj e;have:=htlt j tbj cj e1;omega
      have pu:=hks.push (U:=y2.vt text) e2 hne (Kp.alloc [] wr (.cells #[.slice (some ⟨tbj,0,none⟩) (text.size+1) cj] 117)) (by rw [hkl2];exact ho) hg hor
      rw [hkl2] at pu
      have ek:kidT text (pickP ys) (js.take (t+1))=kidT text (pickP ys) (js.take t)++[y2.vt text]:=by
       rw [take_snoc hgt]
       simp [kidT,pickP_at hy2]
      refine ⟨by rw [ek];exact pu.1,hal.far pu.2 hks.first (fun g hg hm=>?_) (fun j' tb' c' hj' hm=>?_),((kx.mono (T:=u7.ownBlock.toList) (by simp)).trans pu.2).news (fun x hx=>hlo x (by simpa using hx))⟩
      ·have e:ga=g:=Option.some.inj hg
       have:=hlo g (by simpa using hm)
       omega
      ·have:=hlo tb' (by simpa using hm)
       have:=htlt j' tb' c' hj'
       omega
     have HF:=hid fin
     clear fin hks hal kx kr kd d260 q0 hgi hy hyo hyl hjs htlt hf hkj hyk dk hoa e1 e2 hok hj hgt hy2 hoal hoai
     go_wp2_with (at_builtin;refine wpList_app rfl _ _ 190 rfl wi.heap.size 117 j0 (.slice none 0 0) 1 24 Tryz.underlying190 HJ.out.1 HJ.out.2.1 HJ.out.2.2.1 HJ.out.2.2.2 rfl (by decide) u7 t us rfl OWN.out ⟨wr.heap.size,0,none⟩ 1 1 [.slice (some ⟨tbj,0,none⟩) (text.size+1) cj] rfl rfl (fun j u hu=>by rw [Addr.add_mid,Nat.zero_add];exact (Bl.alloc wr [.slice (some ⟨tbj,0,none⟩) (text.size+1) cj] 117).at_ j u hu) (fun u hu=>by simp at hu;subst hu;rfl) (by unfold maxLen;omega) (by omega) HSZ.out (by omega) ?_;intro gb2 cap w8 ho hgr hor)
     have H8:=hid (HF.out w8 gb2 cap ho hgr hor)
     clear ho hgr hor
     go_roundw
     ·exact ⟨t+1,_,by omega,by go_num,H8.out⟩
     ·simp [intOf];omega
    ·have q3:¬ (t:Int) < (js.length:Int):=by omega
     have et:js.take t=js:=List.take_of_length_le (by omega)
     rw [et] at hks
     obtain ⟨V,eV,hcall⟩:=table_any (text:=text) (kidv:=u7) (f:=pickP ys) (HP.out.keep (kr.trans kx)) hN hn (Nat.le_refl _) hy hyo (fun p' hp'=>(hyk p' hp').1) hf (fun p' hp'=>by rw [hgi] at hp';cases hp';rw [hjs];exact hks.ks)
     have HC:=hid hcall
     have HE:=hid (And.intro hal (And.intro kx (And.intro eV (And.intro kr (And.intro hy (And.intro hyl HR.out.1))))))
     clear hcall hks hal kx eV kr kd d260 q0 hgi hy hyo hyl hjs htlt hf hkj hyk et
     go_wp2_with fail
     refine HC.out.mono ?_
     rintro e w5 ⟨ov,rfl,tb5,c5,rfl,h5,k5⟩
     obtain ⟨hal,kx,eV,kr,hy,hyl,hali⟩:=HE.out
     have hal5:=hal.keep k5
     have hoa:=hal5.own
     rw [List.length_map,hyl] at hoa
     have OWN:Hid ((w5.alloc (.cells #[.slice (some ⟨tb5,0,none⟩) (text.size+1) c5] 117)).ownsRow w.heap.size 117 1 (.slice a0 i c0) i vs):=hid (own_kp hoa (Kp.alloc [] w5 _) (by simp))
     have hsz5:w.heap.size≤w5.heap.size:=Nat.le_trans (kr.trans kx).size k5.size
     have HSZ:Hid (w.heap.size≤(w5.alloc (.cells #[.slice (some ⟨tb5,0,none⟩) (text.size+1) c5] 117)).heap.size):=hid (Nat.le_trans hsz5 (Kp.alloc [] w5 _).size)
     have hne:(Value.slice a0 i c0).ownBlock≠some tb5:=fun e=>by
      have:=(hal.own.lt tb5 e).2
      have:=h5.lo
      omega
     have hT5:Tw w5 w5.heap.size (.slice (some ⟨tb5,0,none⟩) (text.size+1) c5) text.size (ddR (y.vt text)):=h5.tw.congr fun a ha=>eV a ha
     have fin:∀ (w8:World) (gb2 cap:Nat),w8.ownsRow w.heap.size 117 1 (.slice (some ⟨gb2,0,none⟩) (i+1) cap) (i+1) (vs++[.slice (some ⟨tb5,0,none⟩) (text.size+1) c5])→(w5.alloc (.cells #[.slice (some ⟨tb5,0,none⟩) (text.size+1) c5] 117)).grownBy w8 (Value.slice a0 i c0).ownBlock→((Value.slice a0 i c0).ownBlock=some gb2∨(w5.alloc (.cells #[.slice (some ⟨tb5,0,none⟩) (text.size+1) c5] 117)).heap.size≤gb2) →
       Al w.heap.size w8 (.slice (some ⟨gb2,0,none⟩) (i+1) cap) text.size ((ys++[y]).map (Pn.vt text)) (vs++[.slice (some ⟨tb5,0,none⟩) (text.size+1) c5])∧Kp [] w w8:=by
      intro w8 gb2 cap ho hg hor
      have hml:(ys.map (Pn.vt text)).length=i:=by rw [List.length_map,hyl]
      have pu:=hal5.push (U:=y.vt text) hT5 hne (Kp.alloc [] w5 (.cells #[.slice (some ⟨tb5,0,none⟩) (text.size+1) c5] 117)) (by rw [hml];exact ho) hg hor
      rw [hml] at pu
      refine ⟨by rw [List.map_append];exact pu.1,((((kr.trans kx).trans k5).mono (by simp)).trans pu.2).news (fun x hx=>(hal5.own.lt x (by simpa using hx)).1)⟩
     have HF:=hid fin
     clear fin hal hal5 hoa hT5 hne h5 k5 kx kr eV hali
     go_wp2_with (at_builtin;refine wpList_app rfl _ _ 190 rfl w.heap.size 117 j0 (.slice none 0 0) 1 24 Tryz.underlying190 HJ.out.1 HJ.out.2.1 HJ.out.2.2.1 HJ.out.2.2.2 rfl (by decide) (.slice a0 i c0) i vs rfl OWN.out ⟨w5.heap.size,0,none⟩ 1 1 [.slice (some ⟨tb5,0,none⟩) (text.size+1) c5] rfl rfl (fun j u hu=>by rw [Addr.add_mid,Nat.zero_add];exact (Bl.alloc w5 [.slice (some ⟨tb5,0,none⟩) (text.size+1) c5] 117).at_ j u hu) (fun u hu=>by simp at hu;subst hu;rfl) (by unfold maxLen;omega) (by omega) HSZ.out (by omega) ?_;intro gb2 cap w8 ho hgr hor)
     have H8:=hid (HF.out w8 gb2 cap ho hgr hor)
     clear ho hgr hor
     go_roundw
     ·refine ⟨i+1,ys++[y],_,by omega,by go_num,H8.out.2,H8.out.1,by simp [hyl],hid (fun j z hj=>?_)⟩
      by_cases hjl:j < ys.length
      ·rw [List.getElem?_append_left hjl] at hj;exact hys.out j z hj
      ·rw [List.getElem?_append_right (by omega)] at hj
       rcases Nat.eq_zero_or_pos (j - ys.length) with e | e
       ·rw [e] at hj
        cases hj
        rw [show j=i by omega];exact hy
       ·rw [List.getElem?_eq_none (by simp;omega)] at hj;cases hj
     ·simp [intOf];omega
  ·have q1:¬ (i:Int) < (N.length:Int):=by omega
   have ei:i=N.length:=by omega
   obtain ⟨a0,c0,hf⟩:=hal.form
   rw [List.length_map,hyl] at hf
   subst hf
   have hlast:(ys.map (Pn.vt text))[N.length - 1]? = some ((pickP ys (N.length - 1)).vt text):=by
    rw [List.getElem?_map]
    obtain ⟨y,hy⟩:∃ y,ys[N.length - 1]? = some y:=⟨_,List.getElem?_eq_getElem (by omega)⟩
    rw [hy,pickP_at hy];rfl
   obtain ⟨tb,ct,e1,e2,_⟩:=hal.tb _ _ hlast
   have hown:=hal.own
   rw [List.length_map,hyl] at hown
   obtain ⟨ga,hga⟩:∃ ga,a0=some ⟨ga,0,none⟩:=by
    rcases hown.2 with ⟨_,z2⟩ | ⟨ga,cc,cur,z1,_⟩
    ·omega
    ·injection z1 with z1 _ _;exact ⟨ga,z1⟩
   subst hga
   have d0:=own_cell hown e1
   have q3:IntKind.i64.wrap ((i:Int) - 1)=((N.length - 1:Nat):Int):=by rw [IntKind.wrap_i64];omega
   have q4:((N.length - 1:Nat):Int) < (i:Int):=by omega
   have q5:(0:Int)≤((N.length - 1:Nat):Int):=by omega
   obtain ⟨ll,hll⟩:∃ ll,N.length - 1=ll:=⟨_,rfl⟩
   rw [hll] at d0 q3 q4 q5 hlast
   have HF:=hid (And.intro e2 (And.intro kr (And.intro hll (And.intro hlast hyl))))
   have hll2:ll < i:=by omega
   have HEI:=hid ei
   clear e1 e2 kr hal hown Pr' hlast hll ei hyl hlt
   go_wp2_with fail
   go_ret
   obtain ⟨e2,kr,hll,hlast,hyl⟩:=HF.out
   refine ⟨_,rfl,e2.congr fun a ha=>?_,kr⟩
   obtain ⟨y,hy⟩:∃ y,ys[ll]? = some y:=⟨_,List.getElem?_eq_getElem (by omega)⟩
   rw [pickP_at (by rw [hll];exact hy)]
   exact rp_eqw (hys.out ll y hy) x (by rw [←hll];exact HX.out) a ha
end
