import Derived.Test.YtnfglkdkmcocnaaGreatDoorR35
import Derived.Test.YtnfglkdkmcocnaaGreatDoorR36
import Derived.Test.YtnfglkdkmcocnaaGreatDoorR37
set_option maxRecDepth 100000
set_option maxHeartbeats 16000000
set_option linter.all false
namespace Go.Proofs.YtnfglkdkmcocnaaGreatDoor
open Go.RowKit
section
variable {w w' w1:World} {B b q:Nat} {src:ByteArray} {k g:Nat} {bad:Int} {v v' v1:Value} {N:List Nw}
theorem piece_brace {l g':Nat} {x:Pn} (hx:notEdge x) (hraw:x.raw≤400000000000000000) (h123:saw src l 123=true) (hA:Calls Tryz.prog 210 #[.pointer (some ⟨b,0,none⟩)] w (RpO src B b q k v N 0 1 w (.ok (l,g',x)))) (hn:N.length+6 * (src.size - k)≤90000) (hOk:∀ l2 g2 y,pcR src (.ok (l,g',x))=.ok (l2,g2,y)→y.Ok) :
  Calls Tryz.prog 167 #[.pointer (some ⟨b,0,none⟩)] w (RpO src B b q k v N 0 1 w (pcR src (.ok (l,g',x)))):=by
 cases hN:numP src (l+1) with
 | error pl=>exact brace_none hx hraw h123 hA hn hOk hN
 | ok p=>
  obtain ⟨l14,a⟩:=p
  cases h44:saw src l14 44 with
  | false=>exact brace_one hx hraw h123 hA hn hOk hN h44
  | true=>
   cases hs:saw src (l14+1) 125 with
   | true=>exact brace_open hx hraw h123 hA hn hOk hN h44 hs
   | false=>
    cases hN2:numP src (l14+1) with
    | error pl=>exact brace_two0 hx hraw h123 hA hn hOk hN h44 hs hN2
    | ok p=>
     obtain ⟨l17,a3⟩:=p
     by_cases hcd:a3 < a∧l17 < src.size∧dig src l17=false
     ·exact brace_two1 hx hraw h123 hA hn hOk hN h44 hs hN2 hcd
     ·exact brace_two2 hx hraw h123 hA hn hOk hN h44 hs hN2 hcd
end
section
variable {w w' w1:World} {B b q:Nat} {src:ByteArray} {k g:Nat} {bad:Int} {v v' v1:Value} {N:List Nw}
theorem Kd.across {kv:Value} {js:List Nat} (h:Kd w B v kv js) (p:Pk b q v v' w w') (hb:b < B) (hq:q < B):Kd w' B v' kv js:=by
 refine ⟨own_kp h.own p.kp fun z hz hm=>?_,fun z hz e=>?_⟩
 ·have:=(h.own.lt z hz).1
  rcases List.mem_cons.1 hm with e | hm
  ·omega
  ·rcases List.mem_cons.1 hm with e | hm
   ·omega
   ·exact h.ne z hz (by simpa using hm)
 ·rcases p.new z e with q1 | q1
  ·exact h.ne z hz q1
  ·have:=(h.own.lt z hz).2;omega
theorem Pk.far {S:List Nat} (h:Pk b q v v1 w w1) (k:Kp S w1 w') (hS:∀ x∈S,w.heap.size≤x):Pk b q v v1 w w':=
 ⟨⟨k.os.trans h.kp.os,k.tape.trans h.kp.tape,k.output.trans h.kp.output,Nat.le_trans h.kp.size k.size,fun i hi hn=>(k.block i (Nat.lt_of_lt_of_le hi h.kp.size) fun hm=>by have:=hS i hm;omega).trans (h.kp.block i hi hn)⟩,h.new⟩
structure Kl (w:World) (B W:Nat) (v kv:Value) (js:List Nat) (N:List Nw):Prop where
 kd:Kd w B v kv js
 ap:∀ y∈N,∀ x,y.2.ownBlock=some x→kv.ownBlock≠some x
 nw:∀ x,kv.ownBlock=some x→W≤x
theorem Kl.nil (w:World) (B W:Nat) (v:Value) (N:List Nw):Kl w B W v noK [] N:=⟨Kd.nil _ _ _,fun _ _ _ _ h=>(by cases h),fun _ h=>(by cases h)⟩
theorem Kl.across {W:Nat} {kv:Value} {js:List Nat} {M:List Nw} (h:Kl w B W v kv js N) (p:Pk b q v v' w w') (hf:Fr w M) (hb:b < B) (hq:q < B):Kl w' B W v' kv js (N++M):=by
 refine ⟨h.kd.across p hb hq,fun y hy x hx e=>?_,h.nw⟩
 rcases List.mem_append.1 hy with hy | hy
 ·exact h.ap y hy x hx e
 ·have:=hf y hy x hx;have:=(h.kd.own.lt x e).2;omega
theorem Kl.keep {W:Nat} {S:List Nat} {kv:Value} {js:List Nat} (h:Kl w B W v kv js N) (k:Kp S w w') (hS:∀ x∈S,x < B):Kl w' B W v kv js N:=⟨h.kd.keep k hS,h.ap,h.nw⟩
theorem Kl.push {W i gb cap:Nat} {kv:Value} {js:List Nat} (h:Kl w B W v kv js N) (P:Ps w B b q src k g bad v N) (hW:W≤w.heap.size) (k1:Kp [] w w1)
  (own:w'.ownsRow B 3 1 (.slice (some ⟨gb,0,none⟩) (js.length+1) cap) (js.length+1) ((js.map fun (j:Nat)=>Value.int .i64 j)++[.int .i64 (i:Nat)])) (hg:w1.grownBy w' kv.ownBlock) (hor:kv.ownBlock=some gb∨w1.heap.size≤gb) :
  Kl w' B W v (.slice (some ⟨gb,0,none⟩) (js.length+1) cap) (js++[i]) N∧Ps w' B b q src k g bad v N∧Kp kv.ownBlock.toList w w':=by
 have kk:Kp kv.ownBlock.toList w w':=(k1.mono (by simp)).trans (kp_grownR hg (by simp))
 have s1:=k1.size
 have hnb:∀ z,kv.ownBlock=some z→B≤z:=fun z hz=>(h.kd.own.lt z hz).1
 have P':Ps w' B b q src k g bad v N:=P.other kk (fun hm=>by have:=hnb b (by simpa using hm);have:=P.hb;omega) (fun hm=>by have:=hnb q (by simpa using hm);have:=P.hq;omega)
  (fun x hx hm=>h.kd.ne x (by simpa using hm) hx) (fun y hy x hx hm=>h.ap y hy x hx (by simpa using hm))
 refine ⟨⟨⟨by rw [List.length_append,List.map_append];exact own,fun z hz e=>?_⟩,fun y hy x hx e=>?_,fun x hx=>?_⟩,P',kk⟩
 ·have e1:gb=z:=Option.some.inj hz
  subst e1
  rcases hor with q1 | q1
  ·exact h.kd.ne _ q1 e
  ·have:=(P.own.lt _ e).2;omega
 ·have e1:gb=x:=Option.some.inj e
  subst e1
  rcases hor with q1 | q1
  ·exact h.ap y hy _ hx q1
  ·have:=((P.kd y hy).own.lt _ hx).2;omega
 ·have e1:gb=x:=Option.some.inj hx
  subst e1
  rcases hor with q1 | q1
  ·exact h.nw _ q1
  ·omega
theorem piece_any {n:Nat} (hg:g≤9) (hk:k < src.size) (hn:N.length+6 * (src.size - k)≤90000) (hraw:∀ l g' x,atomD src n k g=.ok (l,g',x)→x.raw≤400000000000000000∧l≤src.size)
  (hA:Calls Tryz.prog 210 #[.pointer (some ⟨b,0,none⟩)] w (RpO src B b q k v N 0 1 w (atomD src n k g))) :
  Calls Tryz.prog 167 #[.pointer (some ⟨b,0,none⟩)] w (RpO src B b q k v N 0 1 w (pieceP src (n+1) k g)):=by
 rw [piece_eq]
 cases hr:atomD src n k g with
 | error pl=>rw [hr] at hA;exact piece_bad hA
 | ok p=>
  obtain ⟨l,g',x⟩:=p
  rw [hr] at hA
  obtain ⟨h1,h2⟩:=hraw _ _ _ hr
  have hx:(∃ e,x=.edge e∧(e=1∨e=2))∨notEdge x:=by
   unfold atomD at hr
   split at hr
   ·cases hr;exact .inl ⟨1,rfl,.inl rfl⟩
   ·split at hr
    ·cases hr;exact .inl ⟨2,rfl,.inr rfl⟩
    ·exact .inr (atomP_kind hr)
  rcases hx with ⟨e,rfl,he⟩ | hx
  ·exact piece_edge he hA hn
  ·have hOk:∀ l2 g2 y,pcR src (.ok (l,g',x))=.ok (l2,g2,y)→y.Ok:=fun l2 g2 y e=>((nodes_ok src (n+1)).2.1 k g l2 g2 y hg (by rw [piece_eq,hr];exact e)).1
   cases h123:saw src l 123 with
   | true=>exact piece_brace hx h1 h123 hA hn hOk
   | false=>exact piece_simple hx h1 h2 h123 hA hn hOk
end
def rowR (r:Except Nat (Nat×Nat×List Pn)):Except Nat (Nat×Nat×Pn):=match r with
 | .error pl=>.error pl
 | .ok (l,g,xs)=>.ok (l,g,.row xs)
def rowA (xs:List Pn) (r:Except Nat (Nat×Nat×List Pn)):Except Nat (Nat×Nat×List Pn):=match r with
 | .error pl=>.error pl
 | .ok (l,g,ys)=>.ok (l,g,xs++ys)
theorem rawL_snoc:∀ (xs:List Pn) (x:Pn),rawL (xs++[x])=rawL xs+x.raw
 | [],x=>by simp [rawL]
 | y::xs,x=>by rw [List.cons_append,rawL,rawL,rawL_snoc xs x,Nat.add_assoc]
section
variable {w w' w1:World} {B b q:Nat} {src:ByteArray} {k g:Nat} {bad:Int} {v v' v1:Value} {N:List Nw}
theorem rowA_nil (r:Except Nat (Nat×Nat×List Pn)):rowA [] r=r:=by
 cases r with
 | error pl=>rfl
 | ok p=>rfl
theorem rowA_step {n l g':Nat} {x:Pn} {xs:List Pn} (hc:k < src.size∧saw src k 124=false∧saw src k 41=false) (hx:pieceP src n k g=.ok (l,g',x)):rowA xs (rowP src (n+1) k g)=rowA (xs++[x]) (rowP src n l g'):=by
 rw [rowP,if_pos hc,hx]
 dsimp only
 cases rowP src n l g' with
 | error pl=>rfl
 | ok p=>obtain ⟨l2,g2,ys⟩:=p;simp [rowA]
theorem rowA_bad {n pl:Nat} {xs:List Pn} (hc:k < src.size∧saw src k 124=false∧saw src k 41=false) (hx:pieceP src n k g=.error pl):rowA xs (rowP src (n+1) k g)=.error pl:=by
 rw [rowP,if_pos hc,hx];rfl
theorem rowA_end {n:Nat} {xs:List Pn} (hc:¬ (k < src.size∧saw src k 124=false∧saw src k 41=false)):rowA xs (rowP src (n+1) k g)=.ok (k,g,xs):=by
 rw [rowP,if_neg hc];simp [rowA]
theorem row_node5 (a:Option Addr) (m c:Nat) (z:Int) (js:List Nat):∀ w,(Instr.build 192 #[(0,.int .i64 5),(5,.slice a m c),(6,.int .i64 z)]).run Tryz.prog w=.ok (.agg (ndC ⟨5,noBytes,0,0,0,js,z⟩ (.slice a m c)).toArray) w:=fun w=>run_build w _ _ _ (by kernel_rfl)
theorem row_node6 (a:Option Addr) (m c:Nat) (z:Int) (js:List Nat):∀ w,(Instr.build 192 #[(0,.int .i64 6),(5,.slice a m c),(6,.int .i64 z)]).run Tryz.prog w=.ok (.agg (ndC ⟨6,noBytes,0,0,0,js,z⟩ (.slice a m c)).toArray) w:=fun w=>run_build w _ _ _ (by kernel_rfl)
theorem Kd.form {kv:Value} {js:List Nat} (h:Kd w B v kv js):∃ a c,kv=.slice a js.length c:=by
 rcases h.own.2 with ⟨q1,q2⟩ | ⟨gb,c,cur,q1,_⟩
 ·exact ⟨none,0,by rw [q1,q2]⟩
 ·exact ⟨_,c,q1⟩
def rwM (w:World) (b:Nat):Nat:=match w.cell? ⟨b,1,none⟩,w.cell? ⟨b,2,none⟩ with
 | some (.int _ a),some (.int _ z)=>if z < 0 then 3001 - a.toNat else 0
 | _,_=>0
theorem Pr.rwM (h:Pr w b q src k bad):rwM w b=if bad < 0 then 3001 - k else 0:=by
 unfold Go.Proofs.YtnfglkdkmcocnaaGreatDoor.rwM
 rw [h.c1,h.c2]
 simp
structure Bs (N:List Nw) (js:List Nat) (xs:List Pn):Prop where
 len:js.length=xs.length
 lt:∀ j∈js,j < N.length
 rp:∀ (t j:Nat) (x:Pn),js[t]? = some j→xs[t]? = some x→Rp N j x
theorem Bs.nil (N:List Nw):Bs N [] []:=⟨rfl,fun _ h=>(by cases h),fun t j x h=>by simp at h⟩
theorem Bs.app {js:List Nat} {xs:List Pn} (h:Bs N js xs) (M:List Nw):Bs (N++M) js xs:=⟨h.len,fun j hj=>by have:=h.lt j hj;rw [List.length_append];omega,fun t j x h1 h2=>(h.rp t j x h1 h2).app M⟩
theorem Bs.push {js:List Nat} {xs:List Pn} {i:Nat} {x:Pn} (h:Bs N js xs) (hi:i < N.length) (hr:Rp N i x):Bs N (js++[i]) (xs++[x]):=by
 refine ⟨by simp [h.len],fun j hj=>?_,fun t j y h1 h2=>?_⟩
 ·rcases List.mem_append.1 hj with e | e
  ·exact h.lt j e
  ·rw [List.mem_singleton.1 e];exact hi
 ·by_cases ht:t < js.length
  ·rw [List.getElem?_append_left ht] at h1
   rw [List.getElem?_append_left (by rw [←h.len];exact ht)] at h2
   exact h.rp t j y h1 h2
  ·rw [List.getElem?_append_right (by omega)] at h1
   rw [List.getElem?_append_right (by rw [←h.len];omega),←h.len] at h2
   rcases Nat.eq_zero_or_pos (t - js.length) with e | e
   ·rw [e] at h1 h2
    cases h1;cases h2;exact hr
   ·rw [List.getElem?_eq_none (by simp;omega)] at h1;cases h1
structure RwG (src:ByteArray) (B b q k g:Nat) (v:Value) (N:List Nw) (n Q:Nat) (w:World) (kv sv:Value) (wr:World) (k' g' n':Nat) (vv:Value) (M:List Nw) (js:List Nat) (xs:List Pn):Prop where
 ps:Ps wr B b q src k' g' (-1) vv (N++M)
 pk:Pk b q v vv w wr
 fr:Fr w M
 kl:Kl wr B w.heap.size vv kv js (N++M)
 k1:k≤k'
 k2:k'≤src.size
 g9:g'≤9
 fu:4 * (src.size - k')+3≤n'
 n1:n'≤n
 eq:rowP src n k g=rowA xs (rowP src n' k' g')
 sv:sv=.int .i64 (rawL xs:Nat)
 raw:rawL xs≤(k' - k) * Q
 bs:Bs (N++M) js xs
 jl:js.length≤k' - k
 ml:M.length+6 * (src.size - k')≤6 * (src.size - k)
 al:Aln N M
structure RwB (src:ByteArray) (B b q k g:Nat) (v:Value) (N:List Nw) (n:Nat) (w:World) (kv sv:Value) (wr:World) (k' g' pl:Nat) (z:Int) (vv:Value) (M:List Nw) (js:List Nat):Prop where
 ps:Ps wr B b q src k' g' (pl:Nat) vv (N++M)
 pk:Pk b q v vv w wr
 fr:Fr w M
 kl:Kl wr B w.heap.size vv kv js (N++M)
 eq:rowP src n k g=.error pl
 sv:sv=.int .i64 z
 ml:M.length≤6 * (src.size - k)+1
def RwI (src:ByteArray) (B b q k g:Nat) (v:Value) (N:List Nw) (n Q:Nat) (w:World) (kv sv:Value) (wr:World):Prop:=
 (∃ k' g' n' vv M js xs,RwG src B b q k g v N n Q w kv sv wr k' g' n' vv M js xs)∨∃ k' g' pl z vv M js,RwB src B b q k g v N n w kv sv wr k' g' pl z vv M js
def RwO (src:ByteArray) (B b q k g:Nat) (v:Value) (N:List Nw) (n Q:Nat) (w:World) (kv sv:Value) (wr:World):Prop:=
 (∃ k' g' n' vv M js xs,RwG src B b q k g v N n Q w kv sv wr k' g' n' vv M js xs∧rowP src n k g=.ok (k',g',xs))∨∃ k' g' pl z vv M js,RwB src B b q k g v N n w kv sv wr k' g' pl z vv M js
theorem RwG.keep {n Q k' g' n':Nat} {kv sv vv:Value} {wr wd:World} {M:List Nw} {js:List Nat} {xs:List Pn} (h:RwG src B b q k g v N n Q w kv sv wr k' g' n' vv M js xs) (hd:Kp [] wr wd):RwG src B b q k g v N n Q w kv sv wd k' g' n' vv M js xs:=
 ⟨h.ps.keep hd,h.pk.trans (Pk.of_kp hd (by simp)),h.fr,h.kl.keep hd (by simp),h.k1,h.k2,h.g9,h.fu,h.n1,h.eq,h.sv,h.raw,h.bs,h.jl,h.ml,h.al⟩
theorem RwB.keep {n k' g' pl:Nat} {z:Int} {kv sv vv:Value} {wr wd:World} {M:List Nw} {js:List Nat} (h:RwB src B b q k g v N n w kv sv wr k' g' pl z vv M js) (hd:Kp [] wr wd):RwB src B b q k g v N n w kv sv wd k' g' pl z vv M js:=
 ⟨h.ps.keep hd,h.pk.trans (Pk.of_kp hd (by simp)),h.fr,h.kl.keep hd (by simp),h.eq,h.sv,h.ml⟩
theorem RwG.fin {n Q k' g' n':Nat} {kv sv vv v2:Value} {wr w2:World} {M:List Nw} {js:List Nat} {xs:List Pn} (h:RwG src B b q k g v N n Q w kv sv wr k' g' n' vv M js xs) (he:rowP src n k g=.ok (k',g',xs)) (hg:g≤9) (p:Ps w2 B b q src k' g' (-1) v2 (N++M++[(⟨5,noBytes,0,0,0,js,(rawL xs:Nat)⟩,kv)])) (kk:Pk b q vv v2 wr w2) :
  RpO src B b q k v N 1 3 w (rowR (rowP src n k g)) (.returned (.int .i64 (N++M).length)) w2:=by
 rw [he]
 have el:(M++[((⟨5,noBytes,0,0,0,js,(rawL xs:Nat)⟩:Nv),kv)]).length=M.length+1:=by simp
 rw [List.append_assoc] at p
 refine ⟨(N++M).length,v2,M++[(⟨5,noBytes,0,0,0,js,(rawL xs:Nat)⟩,kv)],rfl,h.pk.trans kk,h.fr.push h.kl.nw,len_last _ _ _,p,?R,by rw [el];have:=h.ml;omega,h.al.push ?R (.row ((nodes_ok src n).2.2.1 k g k' g' xs hg he).1) ⟨by show js.length≤1000;have:=h.jl;have:=h.k2;have:=h.ps.pr.small;omega,h.bs.lt⟩⟩
 have B':=h.bs.app [(⟨5,noBytes,0,0,0,js,(rawL xs:Nat)⟩,kv)]
 rw [List.append_assoc] at B'
 refine .row (p:=(⟨5,noBytes,0,0,0,js,(rawL xs:Nat)⟩,kv)) ?_ rfl h.bs.len (fun t j hj=>h.bs.lt j (List.mem_of_getElem? hj)) (by rw [Pn.raw]) B'.rp
 rw [←List.append_assoc];exact last_app _ _
theorem RwB.fin {n k' g' pl:Nat} {z:Int} {kv sv vv v2:Value} {wr w2:World} {M:List Nw} {js:List Nat} (h:RwB src B b q k g v N n w kv sv wr k' g' pl z vv M js) {x:Nv} (p:Ps w2 B b q src k' g' (pl:Nat) v2 (N++M++[(x,kv)])) (kk:Pk b q vv v2 wr w2) :
  RpO src B b q k v N 1 3 w (rowR (rowP src n k g)) (.returned (.int .i64 (N++M).length)) w2:=by
 rw [h.eq]
 have el:(M++[(x,kv)]).length=M.length+1:=by simp
 rw [List.append_assoc] at p
 exact ⟨(N++M).length,v2,M++[(x,kv)],rfl,h.pk.trans kk,h.fr.push h.kl.nw,len_last _ _ _,k',g',p,by rw [el];have:=h.ml;omega⟩
end
section
variable {w w' w1:World} {B b q:Nat} {src:ByteArray} {k g:Nat} {bad:Int} {v v' v1:Value} {N:List Nw}
variable {n Q k' g' m l g2 i:Nat} {kv sv vv v6:Value} {wr wd w6 w7 w8:World} {M M6:List Nw} {js:List Nat} {xs:List Pn} {x:Pn}
theorem RwG.mid (h:RwG src B b q k g v N n Q w kv sv wr k' g' m vv M js xs) (hkp:Kp [] wr wd) (k6:Pk b q vv v6 wd w6) (f6:Fr wd M6):Kl w6 B w.heap.size v6 kv js (N++M++M6)∧Pk b q v v6 w w6∧Fr w (M++M6):=by
 have s1:=h.pk.kp.size
 have s2:=hkp.size
 refine ⟨(h.kl.keep hkp (by simp)).across k6 f6 h.ps.hb h.ps.hq,h.pk.trans ((Pk.of_kp hkp (by simp)).trans k6),fun y hy z hz=>?_⟩
 rcases List.mem_append.1 hy with e | e
 ·exact h.fr y e z hz
 ·have:=f6 y e z hz;omega
theorem RwG.step {gb cap:Nat} (h:RwG src B b q k g v N n Q w kv sv wr k' g' (m+1) vv M js xs) (hc:k' < src.size∧saw src k' 124=false∧saw src k' 41=false) (hx:pieceP src m k' g'=.ok (l,g2,x)) (hq:x.raw≤(l - k') * Q∧k' < l∧l≤src.size∧g2≤9)
  (hkp:Kp [] wr wd) (k6:Pk b q vv v6 wd w6) (f6:Fr wd M6) (hi:i < (N++M++M6).length) (p6:Ps w6 B b q src l g2 (-1) v6 (N++M++M6)) (hr:Rp (N++M++M6) i x) (hl:M6.length+6 * (src.size - l)≤6 * (src.size - k')+0∧Aln (N++M) M6) (k7:Kp [] w6 w7)
  (own:w8.ownsRow B 3 1 (.slice (some ⟨gb,0,none⟩) (js.length+1) cap) (js.length+1) ((js.map fun (j:Nat)=>Value.int .i64 j)++[.int .i64 (i:Nat)])) (hg:w7.grownBy w8 kv.ownBlock) (hor:kv.ownBlock=some gb∨w7.heap.size≤gb) :
  RwG src B b q k g v N n Q w (.slice (some ⟨gb,0,none⟩) (js.length+1) cap) (.int .i64 ((rawL xs+x.raw:Nat):Int)) w8 l g2 m v6 (M++M6) (js++[i]) (xs++[x]):=by
 obtain ⟨hkl,hpk,hfr⟩:=h.mid hkp k6 f6
 have s1:=hpk.kp.size
 obtain ⟨c1,c2,c3⟩:=hkl.push p6 s1 k7 own hg hor
 have hbs:=(h.bs.app M6).push hi hr
 have e1:=h.ml
 have e2:=h.k1
 have e3:=h.fu
 have e4:=h.n1
 have e5:=h.jl
 have e6:=h.raw
 have e0:=hl.1
 rw [List.append_assoc] at c1 c2 hbs
 refine ⟨c2,hpk.far c3 (fun z hz=>h.kl.nw z (by simpa using hz)),hfr,c1,by omega,hq.2.2.1,hq.2.2.2,by omega,by omega,?_,by rw [rawL_snoc],?_,hbs,by simp;omega,by rw [List.length_append];omega,h.al.app hl.2⟩
 ·rw [h.eq];exact rowA_step hc hx
 ·rw [rawL_snoc]
  exact le_side e6 hq.1 e2 (by omega)
theorem RwG.fail_ {pl l' g2:Nat} (h:RwG src B b q k g v N n Q w kv sv wr k' g' (m+1) vv M js xs) (hc:k' < src.size∧saw src k' 124=false∧saw src k' 41=false) (hx:pieceP src m k' g'=.error pl)
  (hkp:Kp [] wr wd) (k6:Pk b q vv v6 wd w6) (f6:Fr wd M6) (p6:Ps w6 B b q src l' g2 (pl:Nat) v6 (N++M++M6)) (hl:M6.length≤6 * (src.size - k')+1) :
  RwB src B b q k g v N n w kv (.int .i64 (rawL xs:Nat)) w6 l' g2 pl (rawL xs:Nat) v6 (M++M6) js:=by
 obtain ⟨hkl,hpk,hfr⟩:=h.mid hkp k6 f6
 have e1:=h.ml
 rw [List.append_assoc] at hkl p6
 exact ⟨p6,hpk,hfr,hkl,by rw [h.eq];exact rowA_bad hc hx,rfl,by rw [List.length_append];omega⟩
theorem Tryz.infoIntR:(Tryz.prog.info? 3).map (fun i=>(i.zero,i.size,i.bytes))=some (some (.int .i64 0),1,8):=by kernel_rfl
theorem row_any (h:Ps w B b q src k g (-1) v N) (hk:k≤src.size) (hs:src.size≤k+100) (hg:g≤9) (hfu:4 * (src.size - k)+3≤n) (hn:N.length+6 * (src.size - k)≤90000) (hQ:100 * Q≤4000000000000000000)
  (hP:∀ (m k' g':Nat) (w1:World) (v1:Value) (N1:List Nw),m < n→Ps w1 B b q src k' g' (-1) v1 N1→k≤k'→k' < src.size→g'≤9→4 * (src.size - k')+2≤m→saw src k' 124=false→saw src k' 41=false→N1.length+6 * (src.size - k')≤90000 →
    Calls Tryz.prog 167 #[.pointer (some ⟨b,0,none⟩)] w1 (RpO src B b q k' v1 N1 0 1 w1 (pieceP src m k' g')))
  (hR:∀ (m k' g' l g2:Nat) (x:Pn),m < n→k≤k'→k' < src.size→g'≤9→4 * (src.size - k')+2≤m→pieceP src m k' g'=.ok (l,g2,x)→x.raw≤(l - k') * Q∧k' < l∧l≤src.size∧g2≤9) :
  Calls Tryz.prog 115 #[.pointer (some ⟨b,0,none⟩)] w (RpO src B b q k v N 1 3 w (rowR (rowP src n k g))):=by
 obtain ⟨i0,hi,hz0,hz1,hz2⟩:=info_parts Tryz.infoIntR
 have HI:=hid (And.intro hi (And.intro hz0 (And.intro hz1 hz2)))
 clear hi hz0 hz1 hz2
 have HP:=hid hP
 have HR:=hid hR
 have h0:RwG src B b q k g v N n Q w (.slice none 0 0) (.int .i64 0) w k g n v [] [] []:=⟨by rw [List.append_nil];exact h,Pk.refl _ _ _ _,fun y hy=>(by cases hy),Kl.nil _ _ _ _ _,Nat.le_refl _,hk,hg,hfu,Nat.le_refl _,(rowA_nil _).symm,rfl,by simp [rawL],Bs.nil _,Nat.zero_le _,by simp,Aln.nil _⟩
 have H0:=hid h0
 have hsm:=h.pr.small
 clear hP hR h0 h
 go_enter Tryz.func115,Tryz.ntmps115
 go_upto_block 0 with fail
 go_cut [3,4] from 5 (fun kv sv wx=>RwO src B b q k g v N n Q w kv sv wx)
 case first=>
  go_wp2_with fail
  go_loopw [3,4] (fun kv sv wr=>RwI src B b q k g v N n Q w kv sv wr) (fun _ _ wr=>rwM wr b)
  case atStart=>exact .inl ⟨k,g,n,v,[],[],[],H0.out⟩
  case round=>
   rcases hrel with ⟨k',g',n',vv,M,js,xs,hG⟩ | ⟨k',g',pl,z,vv,M,js,hB⟩
   ·obtain rfl:=hG.sv
    have hk2:=hG.k2
    obtain ⟨m,rfl⟩:∃ m,n'=m+1:=⟨n' - 1,by have:=hG.fu;omega⟩
    have c0:=hG.ps.pr.c0
    have c1:=hG.ps.pr.c1
    have pa:=hG.ps.pr
    obtain ⟨sx,hsx⟩:∃ sx,rawL xs=sx:=⟨_,rfl⟩
    have HG:=hid hG
    have HX:=hid hsx
    rw [hsx]
    clear hG hsx
    have fin:¬ (k' < src.size∧saw src k' 124=false∧saw src k' 41=false)→∀ nq,RwO src B b q k g v N n Q w u3 (.int .i64 (sx:Nat)) (wr.drewN nq):=fun hc nq=>by
     rw [←HX.out]
     exact .inl ⟨k',g',m+1,vv,M,js,xs,HG.out.keep (Kp.drewN [] wr nq),by rw [HG.out.eq];exact rowA_end hc⟩
    have HF:=hid fin
    clear fin
    by_cases hlt:k' < src.size
    ·have q1:decide ((k':Int) < (src.size:Int))=true:=by simpa using hlt
     have e124:saw src k' 124=decide ((src[k']'hlt).toNat=124):=saw_at hlt 124
     have e41:saw src k' 41=decide ((src[k']'hlt).toNat=41):=saw_at hlt 41
     cases h124:saw src k' 124 with
     | true=>
      have q2:(((src[k']'hlt).toNat:Int) != 124)=false:=by rw [h124] at e124;have:=of_decide_eq_true e124.symm;simp [this]
      clear e124 e41
      go_wp2_with fail
      go_quiet ((go_at_call 67;exact Calls.quiet_of_same (okR_any (pa.drewN _) (v:=true) (by simp))))
      go_wp2_with fail
      go_meet
      case rel=>exact HF.out (fun hc=>by rw [h124] at hc;cases hc.2.1) _
     | false=>
      have n124:¬ (src[k']'hlt).toNat=124:=of_decide_eq_false (e124.symm.trans h124)
      have q2:(((src[k']'hlt).toNat:Int) != 124)=true:=by simp;omega
      cases h41:saw src k' 41 with
      | true=>
       have q3:(((src[k']'hlt).toNat:Int) != 41)=false:=by rw [h41] at e41;have:=of_decide_eq_true e41.symm;simp [this]
       clear e124 e41 n124
       go_wp2_with fail
       go_quiet ((go_at_call 67;exact Calls.quiet_of_same (okR_any (pa.drewN _) (v:=true) (by simp))))
       go_wp2_with fail
       go_meet
       case rel=>exact HF.out (fun hc=>by rw [h41] at hc;cases hc.2.2) _
      | false=>
       have n41:¬ (src[k']'hlt).toNat=41:=of_decide_eq_false (e41.symm.trans h41)
       have q3:(((src[k']'hlt).toNat:Int) != 41)=true:=by simp;omega
       clear e124 e41 n124 n41 HF
       go_wp2_with fail
       go_quiet ((go_at_call 67;exact Calls.quiet_of_same (okR_any (pa.drewN _) (v:=true) (by simp))))
       go_wp2_with fail
       have HD:=hid (HG.out.keep (Kp.drewN [] wr nq))
       have hps:rwM wr b=3001 - k':=by rw [pa.rwM];rfl
       have HM:=hid hps
       obtain ⟨wd,hwd⟩:∃ wd,wd=wr.drewN nq:=⟨_,rfl⟩
       rw [←hwd] at HD ⊢
       obtain ⟨NM,hNM⟩:∃ NM,NM=N++M:=⟨_,rfl⟩
       have hP:=HD.out.ps
       rw [←hNM] at hP
       have hnl:NM.length+6 * (src.size - k')≤90000:=by have:=HG.out.ml;rw [hNM,List.length_append];omega
       clear hwd c0 c1 pa q1 q2 q3 hps
       refine (HP.out m k' g' wd vv NM (by have:=HG.out.n1;omega) hP HG.out.k1 hlt HG.out.g9 (by have:=HG.out.fu;omega) h124 h41 hnl).mono ?_
       rintro e w6 ⟨i,v6,M6,rfl,k6,f6,hi6,hm⟩
       clear hP
       have hi6:i < (NM++M6).length:=by omega
       cases hp:pieceP src m k' g' with
       | error pl=>
        rw [hp] at hm
        obtain ⟨l6,g6,p6,hl6⟩:=hm
        have pb:=p6.pr
        rw [hNM] at p6
        have HB:=hid (HD.out.fail_ ⟨hlt,h124,h41⟩ hp (Kp.refl _ _) k6 f6 p6 hl6)
        have hp6:=hid pb.rwM
        clear p6 hl6 k6 f6 hi6 hp
        go_wp2_with fail
        refine (okR_any pb (v:=false) (by simp)).mono ?_
        rintro e w7 ⟨rfl,rfl⟩
        go_wp2_with fail
        go_roundw
        ·have hB:=HB.out
         rw [HX.out] at hB
         exact .inr ⟨l6,g6,pl,(sx:Nat),v6,M++M6,js,hB⟩
        ·rw [hp6.out,HM.out,if_neg (by omega)];omega
       | ok pp=>
        obtain ⟨l6,g6,x⟩:=pp
        rw [hp] at hm
        obtain ⟨p6,hr6,hl6⟩:=hm
        have hq:=HR.out m k' g' l6 g6 x (by have:=HG.out.n1;omega) HG.out.k1 hlt HG.out.g9 (by have:=HG.out.fu;omega) hp
        have pb:=p6.pr
        obtain ⟨y,hy1,hy2⟩:=hr6.at_
        rw [hNM] at p6 hr6 hi6 hl6
        have hmid:=(HD.out.mid (Kp.refl _ _) k6 f6).1
        have OWN:Hid ((w6.alloc (.cells #[.int .i64 (i:Nat)] 3)).ownsRow B 3 1 u3 js.length (js.map fun (j:Nat)=>Value.int .i64 j)):=hid (own_kp hmid.kd.own (Kp.alloc [] w6 _) (by simp))
        have HSZ:Hid (B≤(w6.alloc (.cells #[.int .i64 (i:Nat)] 3)).heap.size):=hid (Nat.le_trans p6.hB (Kp.alloc [] w6 _).size)
        have hjl:js.length≤3000:=by have:=HG.out.jl;omega
        have step:=fun (w8:World) (gb cap:Nat) ho hg hor=>HD.out.step (w8:=w8) (gb:=gb) (cap:=cap) ⟨hlt,h124,h41⟩ hp hq (Kp.refl _ _) k6 f6 hi6 p6 hr6 hl6 (Kp.alloc [] w6 (.cells #[.int .i64 (i:Nat)] 3)) ho hg hor
        have HS:=hid step
        obtain ⟨sr,hsr⟩:∃ sr,x.raw=sr:=⟨_,rfl⟩
        have hz1:IntKind.i64.wrap ((sx:Int)+(sr:Int))=((sx+sr:Nat):Int):=by
         have e1:=HG.out.raw
         rw [HX.out] at e1
         have e2:=hq.1
         rw [hsr] at e2
         have e3:=le_side e1 e2 HG.out.k1 (by omega)
         have e4:(l6 - k) * Q≤100 * Q:=Nat.mul_le_mul_right _ (by omega)
         rw [IntKind.wrap_i64];omega
        have hl6':k' < l6:=hq.2.1
        have hls:l6≤src.size:=hq.2.2.1
        have HY:=hid (And.intro hy1 (And.intro hy2 hsr))
        clear hmid p6 hr6 hi6 hl6 k6 f6 step hq hp hy1 hy2 hsr
        go_wp2_with fail
        refine (okR_any pb (v:=true) (by simp)).mono ?_
        rintro e w7 ⟨rfl,rfl⟩
        clear pb
        go_wp2_with (at_builtin;refine wpList_app rfl _ _ 60 rfl B 3 i0 (.int .i64 0) 1 8 Tryz.underlying60 HI.out.1 HI.out.2.1 HI.out.2.2.1 HI.out.2.2.2 rfl (by decide) u3 js.length (js.map fun (j:Nat)=>Value.int .i64 j) rfl OWN.out ⟨w7.heap.size,0,none⟩ 1 1 [.int .i64 (i:Nat)] rfl rfl (fun j u hu=>by rw [Addr.add_mid,Nat.zero_add];exact (Bl.alloc w7 [.int .i64 (i:Nat)] 3).at_ j u hu) (fun u hu=>by simp at hu;subst hu;rfl) (by unfold maxLen;omega) (by omega) HSZ.out (by omega) ?_;intro gb cap w8 ho hgr hor)
        have hG8:=HS.out w8 gb cap ho hgr hor
        rw [HX.out,HY.out.2.2] at hG8
        have hP8:=hG8.ps
        have hnn8:(N++(M++M6)).length≤100000:=by have:=hG8.ml;rw [List.length_append];omega
        have hy8:(N++(M++M6))[i]? = some y:=by rw [←List.append_assoc,←hNM];exact HY.out.1
        have HG8:=hid hG8
        clear ho hgr hor hG8
        refine (sizeOf_any hP8 hy8 hnn8).mono ?_
        rw [HY.out.2.1,HY.out.2.2]
        rintro e w9 ⟨rfl,rfl⟩
        clear hP8 hy8 hnn8
        go_wp2_with fail
        go_roundw
        ·exact .inl ⟨l6,g6,m,v6,M++M6,js++[i],xs++[x],HG8.out⟩
        ·rw [HG8.out.ps.pr.rwM,HM.out,if_pos (by omega)];omega
    ·have q1:decide ((k':Int) < (src.size:Int))=false:=by simpa using hlt
     go_wp2_with fail
     go_quiet ((go_at_call 67;exact Calls.quiet_of_same (okR_any (pa.drewN _) (v:=true) (by simp))))
     go_wp2_with fail
     go_meet
     case rel=>exact HF.out (fun hc=>hlt hc.1) _
   ·have pa:=hB.ps.pr
    have HB:=hid hB
    clear hB
    go_wp2_with fail
    go_quiet ((go_at_call 67;exact Calls.quiet_of_same (okR_any (pa.drewN _) (v:=false) (by simp))))
    go_wp2_with fail
    go_meet
    case rel=>exact .inr ⟨k',g',pl,z,vv,M,js,HB.out.keep (Kp.drewN [] _ _)⟩
 case rest=>
  rcases hcut with ⟨k',g',n',vv,M,js,xs,hG,he⟩ | ⟨k',g',pl,z,vv,M,js,hB⟩
  ·obtain ⟨a,c,rfl⟩:=hG.kl.kd.form
   obtain rfl:=hG.sv
   have en:=row_node5 a js.length c (rawL xs:Nat) js
   obtain ⟨NM,hNM⟩:∃ NM,NM=N++M:=⟨_,rfl⟩
   have hnn:NM.length≤100000:=by have:=hG.ml;rw [hNM,List.length_append];omega
   have hP:=hG.ps
   rw [←hNM] at hP
   have HG:=hid (And.intro hG (And.intro he (And.intro hP hNM)))
   clear hG he hP hNM
   go_wp2_with fail
   refine (node_push HG.out.2.2.1 ⟨5,noBytes,0,0,0,js,(rawL xs:Nat)⟩ HG.out.1.kl.kd hnn).mono ?_
   rintro e w10 ⟨rfl,v10,p10,k10⟩
   have H10:Hid (RpO src B b q k v N 1 3 w (rowR (rowP src n k g)) (.returned (.int .i64 NM.length)) w10):=hid (by
    rw [HG.out.2.2.2] at p10 ⊢
    exact HG.out.1.fin HG.out.2.1 hg p10 k10)
   clear p10 k10
   go_wp2_with fail
   go_ret
   exact H10.out
  ·obtain ⟨a,c,rfl⟩:=hB.kl.kd.form
   obtain rfl:=hB.sv
   have en:=row_node5 a js.length c z js
   obtain ⟨NM,hNM⟩:∃ NM,NM=N++M:=⟨_,rfl⟩
   have hnn:NM.length≤100000:=by have:=hB.ml;rw [hNM,List.length_append];omega
   have hP:=hB.ps
   rw [←hNM] at hP
   have HG:=hid (And.intro hB (And.intro hP hNM))
   clear hB hP hNM
   go_wp2_with fail
   refine (node_push HG.out.2.1 ⟨5,noBytes,0,0,0,js,z⟩ HG.out.1.kl.kd hnn).mono ?_
   rintro e w10 ⟨rfl,v10,p10,k10⟩
   have H10:Hid (RpO src B b q k v N 1 3 w (rowR (rowP src n k g)) (.returned (.int .i64 NM.length)) w10):=hid (by
    rw [HG.out.2.2] at p10 ⊢
    exact HG.out.1.fin p10 k10)
   clear p10 k10
   go_wp2_with fail
   go_ret
   exact H10.out
end
