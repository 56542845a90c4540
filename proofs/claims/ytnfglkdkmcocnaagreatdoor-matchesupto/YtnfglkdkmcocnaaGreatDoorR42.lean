import Derived.Test.YtnfglkdkmcocnaaGreatDoorR38
import Derived.Test.YtnfglkdkmcocnaaGreatDoorR25
set_option maxRecDepth 100000
set_option maxHeartbeats 16000000
set_option linter.all false
namespace Go.Proofs.YtnfglkdkmcocnaaGreatDoor
open Go.RowKit
def brE (r:Except Nat (Nat×Nat×List Pn)):Except Nat (Nat×Nat×Pn):=match r with
 | .error pl=>.error pl
 | .ok (l,g,ys)=>.ok (l,g,.brs ys)
section
variable {w w' w1:World} {B b q:Nat} {src:ByteArray} {k g:Nat} {bad:Int} {v v' v1:Value} {N:List Nw}
theorem brs_first {n l g':Nat} {xs:List Pn} (h:rowP src n k g=.ok (l,g',xs)):brsP src (n+1) k g=brE (rowA [.row xs] (moreP src n l g')):=by
 rw [brsP,h]
 dsimp only
 cases moreP src n l g' with
 | error pl=>rfl
 | ok p=>rfl
theorem brs_bad {n pl:Nat} (h:rowP src n k g=.error pl):brsP src (n+1) k g=.error pl:=by
 rw [brsP,h]
theorem more_step {n l g':Nat} {xs ys:List Pn} (h:saw src k 124=true) (hr:rowP src n (k+1) g=.ok (l,g',xs)):rowA ys (moreP src (n+1) k g)=rowA (ys++[.row xs]) (moreP src n l g'):=by
 rw [moreP,if_pos h,hr]
 dsimp only
 cases moreP src n l g' with
 | error pl=>rfl
 | ok p=>obtain ⟨l2,g2,zs⟩:=p;simp [rowA]
theorem more_bad {n pl:Nat} {ys:List Pn} (h:saw src k 124=true) (hr:rowP src n (k+1) g=.error pl):rowA ys (moreP src (n+1) k g)=.error pl:=by
 rw [moreP,if_pos h,hr];rfl
theorem more_end {n:Nat} {ys:List Pn} (h:saw src k 124=false):rowA ys (moreP src (n+1) k g)=.ok (k,g,ys):=by
 rw [moreP,if_neg (by rw [h];simp)];simp [rowA]
structure AyG (src:ByteArray) (B b q k g:Nat) (v:Value) (N:List Nw) (n Q:Nat) (w:World) (i0:Nat) (kv sv:Value) (wr:World) (k' g' n':Nat) (vv:Value) (M:List Nw) (js:List Nat) (ys:List Pn):Prop where
 ps:Ps wr B b q src k' g' (-1) vv (N++M)
 pk:Pk b q v vv w wr
 fr:Fr w M
 kl:Kl wr B w.heap.size vv kv js (N++M)
 k1:k≤k'
 k2:k'≤src.size
 g9:g'≤9
 fu:4 * (src.size - k')+3≤n'
 n1:n'≤n
 eq:brsP src (n+1) k g=brE (rowA ys (moreP src n' k' g'))
 sv:sv=.int .i64 (rawL ys+(ys.length - 1):Nat)
 raw:rawL ys≤(k' - k) * Q
 bs:Bs (N++M) js ys
 j0:js[0]? = some i0
 j1:js.length=1→i0+1=(N++M).length
 jl:js.length≤k' - k+1
 ml:M.length+6 * (src.size - k')≤6 * (src.size - k)+1
 al:Aln N M
structure AyB (src:ByteArray) (B b q k g:Nat) (v:Value) (N:List Nw) (n:Nat) (w:World) (i0:Nat) (kv sv:Value) (wr:World) (k' g' pl:Nat) (z:Int) (vv:Value) (M:List Nw) (js:List Nat):Prop where
 ps:Ps wr B b q src k' g' (pl:Nat) vv (N++M)
 pk:Pk b q v vv w wr
 fr:Fr w M
 kl:Kl wr B w.heap.size vv kv js (N++M)
 eq:brsP src (n+1) k g=.error pl
 sv:sv=.int .i64 z
 i1:i0 < (N++M).length
 j1:1≤js.length
 j2:js.length=1→i0+1=(N++M).length
 ml:M.length≤6 * (src.size - k)+3
def AyI (src:ByteArray) (B b q k g:Nat) (v:Value) (N:List Nw) (n Q:Nat) (w:World) (i0:Nat) (kv sv:Value) (wr:World):Prop:=
 (∃ k' g' n' vv M js ys,AyG src B b q k g v N n Q w i0 kv sv wr k' g' n' vv M js ys)∨∃ k' g' pl z vv M js,AyB src B b q k g v N n w i0 kv sv wr k' g' pl z vv M js
def AyO (src:ByteArray) (B b q k g:Nat) (v:Value) (N:List Nw) (n Q:Nat) (w:World) (i0:Nat) (kv sv:Value) (wr:World):Prop:=
 (∃ k' g' n' vv M js ys,AyG src B b q k g v N n Q w i0 kv sv wr k' g' n' vv M js ys∧brsP src (n+1) k g=.ok (k',g',.brs ys))∨∃ k' g' pl z vv M js,AyB src B b q k g v N n w i0 kv sv wr k' g' pl z vv M js
variable {n Q k' g' m l g2 i i0:Nat} {kv sv vv v6:Value} {wr wd w6 w7 w8:World} {M M6:List Nw} {js:List Nat} {xs ys:List Pn} {x:Pn}
theorem AyG.mid (h:AyG src B b q k g v N n Q w i0 kv sv wr k' g' m vv M js ys) (hkp:Kp [b] wr wd) (k6:Pk b q vv v6 wd w6) (f6:Fr wd M6):Kl w6 B w.heap.size v6 kv js (N++M++M6)∧Pk b q v v6 w w6∧Fr w (M++M6):=by
 have s1:=h.pk.kp.size
 have s2:=hkp.size
 refine ⟨(h.kl.keep hkp (fun y hy=>by rw [List.mem_singleton.1 hy];exact h.ps.hb)).across k6 f6 h.ps.hb h.ps.hq,h.pk.trans ((Pk.of_kp hkp (by simp)).trans k6),fun y hy z hz=>?_⟩
 rcases List.mem_append.1 hy with e | e
 ·exact h.fr y e z hz
 ·have:=f6 y e z hz;omega
theorem AyG.step {gb cap:Nat} (h:AyG src B b q k g v N n Q w i0 kv sv wr k' g' (m+1) vv M js ys) (hc:saw src k' 124=true) (hx:rowP src m (k'+1) g'=.ok (l,g2,xs)) (hq:rawL xs≤(l - (k'+1)) * Q∧k'+1≤l∧l≤src.size∧g2≤9)
  (hkp:Kp [b] wr wd) (k6:Pk b q vv v6 wd w6) (f6:Fr wd M6) (hi:i < (N++M++M6).length) (p6:Ps w6 B b q src l g2 (-1) v6 (N++M++M6)) (hr:Rp (N++M++M6) i (.row xs)) (hl:M6.length+6 * (src.size - l)≤6 * (src.size - (k'+1))+1∧Aln (N++M) M6) (k7:Kp [] w6 w7)
  (own:w8.ownsRow B 3 1 (.slice (some ⟨gb,0,none⟩) (js.length+1) cap) (js.length+1) ((js.map fun (j:Nat)=>Value.int .i64 j)++[.int .i64 (i:Nat)])) (hg:w7.grownBy w8 kv.ownBlock) (hor:kv.ownBlock=some gb∨w7.heap.size≤gb) :
  AyG src B b q k g v N n Q w i0 (.slice (some ⟨gb,0,none⟩) (js.length+1) cap) (.int .i64 ((rawL ys+(ys.length - 1)+1+rawL xs:Nat):Int)) w8 l g2 m v6 (M++M6) (js++[i]) (ys++[.row xs]):=by
 obtain ⟨hkl,hpk,hfr⟩:=h.mid hkp k6 f6
 have s1:=hpk.kp.size
 obtain ⟨c1,c2,c3⟩:=hkl.push p6 s1 k7 own hg hor
 have hbs:=(h.bs.app M6).push hi hr
 have hk:=saw_lt hc
 have e1:=h.ml
 have e2:=h.k1
 have e3:=h.fu
 have e4:=h.n1
 have e5:=h.jl
 have e6:=h.raw
 have e7:=h.bs.len
 have e0:=hl.1
 have e8:1≤js.length:=by have:=(List.getElem?_eq_some_iff.1 h.j0).1;omega
 rw [List.append_assoc] at c1 c2 hbs
 refine ⟨c2,hpk.far c3 (fun z hz=>h.kl.nw z (by simpa using hz)),hfr,c1,by omega,hq.2.2.1,hq.2.2.2,by omega,by omega,?_,?_,?_,hbs,?_,fun hh=>by rw [List.length_append,List.length_singleton] at hh;omega,by simp;omega,by rw [List.length_append];omega,h.al.app hl.2⟩
 ·rw [h.eq,more_step hc hx]
 ·rw [rawL_snoc,Pn.raw,List.length_append]
  congr 2
  simp
  omega
 ·rw [rawL_snoc,Pn.raw]
  have c:rawL ys+rawL xs≤(k' - k) * Q+(l - (k'+1)) * Q:=by omega
  refine Nat.le_trans c ?_
  rw [←Nat.add_mul]
  exact Nat.mul_le_mul_right _ (by omega)
 ·rw [List.getElem?_append_left (by omega)];exact h.j0
theorem AyG.fail_ {pl l' g2 gb cap:Nat} {z:Int} (h:AyG src B b q k g v N n Q w i0 kv sv wr k' g' (m+1) vv M js ys) (hc:saw src k' 124=true) (hx:rowP src m (k'+1) g'=.error pl)
  (hkp:Kp [b] wr wd) (k6:Pk b q vv v6 wd w6) (f6:Fr wd M6) (p6:Ps w6 B b q src l' g2 (pl:Nat) v6 (N++M++M6)) (hl:M6.length≤6 * (src.size - (k'+1))+3) (k7:Kp [] w6 w7)
  (own:w8.ownsRow B 3 1 (.slice (some ⟨gb,0,none⟩) (js.length+1) cap) (js.length+1) ((js.map fun (j:Nat)=>Value.int .i64 j)++[.int .i64 (i:Nat)])) (hg:w7.grownBy w8 kv.ownBlock) (hor:kv.ownBlock=some gb∨w7.heap.size≤gb) :
  AyB src B b q k g v N n w i0 (.slice (some ⟨gb,0,none⟩) (js.length+1) cap) (.int .i64 z) w8 l' g2 pl z v6 (M++M6) (js++[i]):=by
 obtain ⟨hkl,hpk,hfr⟩:=h.mid hkp k6 f6
 have s1:=hpk.kp.size
 obtain ⟨c1,c2,c3⟩:=hkl.push p6 s1 k7 own hg hor
 have hk:=saw_lt hc
 have e1:=h.ml
 have e2:=h.k1
 have e9:=h.bs.lt i0 (List.mem_of_getElem? h.j0)
 rw [List.append_assoc] at c1 c2
 refine ⟨c2,hpk.far c3 (fun z hz=>h.kl.nw z (by simpa using hz)),hfr,c1,?_,rfl,by rw [List.length_append,List.length_append];rw [List.length_append] at e9;omega,by simp,fun hh=>by rw [List.length_append,List.length_singleton] at hh;have:=(List.getElem?_eq_some_iff.1 h.j0).1;omega,by rw [List.length_append];omega⟩
 rw [h.eq,more_bad hc hx];rfl
theorem AyG.over {wr':World} (h:AyG src B b q k g v N n Q w i0 kv sv wr k' g' (m+1) vv M js ys) (hc:saw src k' 124=false) (hkp:Kp [b] wr wr') (hp:Pr wr' b q src k' (-1)):AyO src B b q k g v N n Q w i0 kv sv wr':=
 .inl ⟨k',g',m+1,vv,M,js,ys,⟨h.ps.move hkp (by simp) hp,h.pk.trans (Pk.of_kp hkp (by simp)),h.fr,h.kl.keep hkp (fun y hy=>by rw [List.mem_singleton.1 hy];exact h.ps.hb),h.k1,h.k2,h.g9,h.fu,h.n1,h.eq,h.sv,h.raw,h.bs,h.j0,h.j1,h.jl,h.ml,h.al⟩,by rw [h.eq,more_end hc];rfl⟩
theorem AyG.one_ {n':Nat} (h:AyG src B b q k g v N n Q w i0 kv sv wr k' g' n' vv M js ys) (he:brsP src (n+1) k g=.ok (k',g',.brs ys)) (h1:js.length=1):RpO src B b q k v N 2 4 w (brsP src (n+1) k g) (.returned (.int .i64 (i0:Nat))) wr:=by
 rw [he]
 have e7:=h.bs.len
 match ys,e7,h.bs with
 | [y],_,hbs=>
  exact ⟨i0,vv,M,rfl,h.pk,h.fr,h.j1 h1,h.ps,.brs1 (hbs.rp 0 i0 y h.j0 rfl),by have:=h.ml;omega,h.al⟩
 | [],e7,_=>exact absurd (h1.symm.trans e7) (by simp)
 | _::_::_,e7,_=>exact absurd (h1.symm.trans e7) (by simp)
theorem AyB.one_ {pl:Nat} {z:Int} (h:AyB src B b q k g v N n w i0 kv sv wr k' g' pl z vv M js) (h1:js.length=1):RpO src B b q k v N 2 4 w (brsP src (n+1) k g) (.returned (.int .i64 (i0:Nat))) wr:=by
 rw [h.eq]
 exact ⟨i0,vv,M,rfl,h.pk,h.fr,h.j2 h1,k',g',h.ps,by have:=h.ml;omega⟩
theorem AyG.fin {n':Nat} {v2:Value} {w2:World} (h:AyG src B b q k g v N n Q w i0 kv sv wr k' g' n' vv M js ys) (he:brsP src (n+1) k g=.ok (k',g',.brs ys)) (hg:g≤9) (h1:js.length≠1) (p:Ps w2 B b q src k' g' (-1) v2 (N++M++[(⟨6,noBytes,0,0,0,js,(rawL ys+(ys.length - 1):Nat)⟩,kv)])) (kk:Pk b q vv v2 wr w2) :
  RpO src B b q k v N 2 4 w (brsP src (n+1) k g) (.returned (.int .i64 (N++M).length)) w2:=by
 rw [he]
 have el:(M++[((⟨6,noBytes,0,0,0,js,(rawL ys+(ys.length - 1):Nat)⟩:Nv),kv)]).length=M.length+1:=by simp
 rw [List.append_assoc] at p
 refine ⟨(N++M).length,v2,M++[(⟨6,noBytes,0,0,0,js,(rawL ys+(ys.length - 1):Nat)⟩,kv)],rfl,h.pk.trans kk,h.fr.push h.kl.nw,len_last _ _ _,p,?R,by rw [el];have:=h.ml;omega,h.al.push ?R ((nodes_ok src (n+1)).2.2.2.2 k g k' g' _ hg he).1 ⟨by show js.length≤1000;have:=h.jl;have:=h.k2;have:=h.ps.pr.small;omega,h.bs.lt⟩⟩
 have B':=h.bs.app [(⟨6,noBytes,0,0,0,js,(rawL ys+(ys.length - 1):Nat)⟩,kv)]
 rw [List.append_assoc] at B'
 have e8:1≤js.length:=by have:=(List.getElem?_eq_some_iff.1 h.j0).1;omega
 refine .brs (p:=(⟨6,noBytes,0,0,0,js,(rawL ys+(ys.length - 1):Nat)⟩,kv)) ?_ rfl (by have:=h.bs.len;omega) h.bs.len (fun t j hj=>h.bs.lt j (List.mem_of_getElem? hj)) (by rw [Pn.raw]) B'.rp
 rw [←List.append_assoc];exact last_app _ _
theorem AyB.fin {pl:Nat} {z:Int} {v2:Value} {w2:World} (h:AyB src B b q k g v N n w i0 kv sv wr k' g' pl z vv M js) {x:Nv} (p:Ps w2 B b q src k' g' (pl:Nat) v2 (N++M++[(x,kv)])) (kk:Pk b q vv v2 wr w2) :
  RpO src B b q k v N 2 4 w (brsP src (n+1) k g) (.returned (.int .i64 (N++M).length)) w2:=by
 rw [h.eq]
 have el:(M++[(x,kv)]).length=M.length+1:=by simp
 rw [List.append_assoc] at p
 exact ⟨(N++M).length,v2,M++[(x,kv)],rfl,h.pk.trans kk,h.fr.push h.kl.nw,len_last _ _ _,k',g',p,by rw [el];have:=h.ml;omega⟩
end
section
variable {w w' w1:World} {B b q:Nat} {src:ByteArray} {k g n Q:Nat} {bad:Int} {v v' v1:Value} {N:List Nw}
theorem any_any (h:Ps w B b q src k g (-1) v N) (hk:k≤src.size) (hs:src.size≤k+100) (hg:g≤9) (hfu:4 * (src.size - k)+3≤n) (hn:N.length+6 * (src.size - k)≤90000) (hQ:100 * Q≤4000000000000000000)
  (hP:∀ (m k' g':Nat) (w1:World) (v1:Value) (N1:List Nw),m≤n→Ps w1 B b q src k' g' (-1) v1 N1→k≤k'→k'≤src.size→g'≤9→4 * (src.size - k')+3≤m→N1.length+6 * (src.size - k')≤90000 →
    Calls Tryz.prog 115 #[.pointer (some ⟨b,0,none⟩)] w1 (RpO src B b q k' v1 N1 1 3 w1 (rowR (rowP src m k' g'))))
  (hR:∀ (m k' g' l g2:Nat) (xs:List Pn),m≤n→k≤k'→k'≤src.size→g'≤9→4 * (src.size - k')+3≤m→rowP src m k' g'=.ok (l,g2,xs)→rawL xs≤(l - k') * Q∧k'≤l∧l≤src.size∧g2≤9) :
  Calls Tryz.prog 66 #[.pointer (some ⟨b,0,none⟩)] w (RpO src B b q k v N 2 4 w (brsP src (n+1) k g)):=by
 obtain ⟨i0,hi,hz0,hz1,hz2⟩:=info_parts Tryz.infoIntR
 have HI:=hid (And.intro hi (And.intro hz0 (And.intro hz1 hz2)))
 clear hi hz0 hz1 hz2
 have HP:=hid hP
 have HR:=hid hR
 have hsm:=h.pr.small
 clear hP hR
 go_enter Tryz.func66,Tryz.ntmps66
 go_wp2_with fail
 refine (HP.out n k g w v N (Nat.le_refl _) h (Nat.le_refl _) hk hg hfu hn).mono ?_
 rintro e w6 ⟨x0,v6,M,rfl,k6,f6,hi7,hm⟩
 have hi6:x0 < (N++M).length:=by omega
 clear h
 obtain ⟨y,hy⟩:∃ y,(N++M)[x0]? = some y:=⟨_,List.getElem?_eq_getElem hi6⟩
 obtain ⟨hs6,hhs⟩:∃ x,x=w6.heap.size:=⟨_,rfl⟩
 obtain ⟨w7,hw7⟩:∃ w7,w7=w6.alloc (.cells #[.int .i64 (x0:Nat)] 3):=⟨_,rfl⟩
 obtain ⟨zz,hzz⟩:∃ z,y.1.size=z:=⟨_,rfl⟩
 -- what stands behind the first row
 have start:AyI src B b q k g v N n Q w x0 (.slice (some ⟨hs6,0,none⟩) 1 1) (.int .i64 zz) w7∧∃ k' g' bd,Ps w7 B b q src k' g' bd v6 (N++M)∧M.length≤6 * (src.size - k)+3:=by
  have ka:Kp [] w6 w7:=by rw [hw7];exact Kp.alloc _ _ _
  have s6:=k6.kp.size
  have klx:∀ {l' g' bd},Ps w6 B b q src l' g' bd v6 (N++M)→Kl w7 B w.heap.size v6 (.slice (some ⟨hs6,0,none⟩) 1 1) [x0] (N++M):=fun {l' g' bd} p6=>by
   refine ⟨?_,fun y hy x hx e=>?_,fun x hx=>?_⟩
   ·rw [hw7,hhs];exact Kd.fresh w6 p6.hB p6.vlt
   ·have e:hs6=x:=Option.some.inj e
    have:=((p6.kd y hy).own.lt x hx).2
    omega
   ·have e:hs6=x:=Option.some.inj hx
    omega
  cases hr:rowP src n k g with
  | error pl=>
   rw [hr] at hm
   obtain ⟨l',g',p6,hl6⟩:=hm
   exact ⟨.inr ⟨l',g',pl,zz,v6,M,[x0],⟨p6.keep ka,k6.trans (Pk.of_kp ka (by simp)),f6,klx p6,brs_bad hr,rfl,hi6,by simp,fun _=>hi7,by omega⟩⟩,l',g',_,p6.keep ka,by omega⟩
  | ok p=>
   obtain ⟨l,g',xs⟩:=p
   rw [hr] at hm
   obtain ⟨p6,hr6,hl6,ha6⟩:=hm
   obtain ⟨r1,r2,r3,r4⟩:=HR.out n k g l g' xs (Nat.le_refl _) (Nat.le_refl _) hk hg hfu hr
   have ez:zz=((rawL xs:Nat):Int):=by
    obtain ⟨y',e1,e2⟩:=hr6.at_
    rw [hy] at e1
    cases e1
    rw [←hzz,e2,Pn.raw]
   have hbs:Bs (N++M) [x0] [.row xs]:=(Bs.nil (N++M)).push hi6 hr6
   exact ⟨.inl ⟨l,g',n,v6,M,[x0],[.row xs],⟨p6.keep ka,k6.trans (Pk.of_kp ka (by simp)),f6,klx p6,r2,r3,r4,by omega,Nat.le_refl _,brs_first hr,by rw [ez];simp [rawL,Pn.raw],by simpa [rawL,Pn.raw] using r1,hbs,rfl,fun _=>hi7,by simp,by omega,ha6⟩⟩,l,g',_,p6.keep ka,by omega⟩
 obtain ⟨hst,k7,g7,bd7,p7,hl7⟩:=start
 have HST:=hid hst
 have hnn:(N++M).length≤100000:=by rw [List.length_append];omega
 clear hst hm k6 f6 hi6 hi7 hl7
 go_upto_region 3 with fail
 rw [←hw7,←hhs]
 clear hw7 hhs
 go_wp2_with fail
 refine (sizeOf_any p7 hy hnn).mono ?_
 rw [hzz]
 rintro e w8 ⟨rfl,rfl⟩
 clear p7 hy hzz hnn
 go_upto_block 0 with fail
 go_cut [4,5] from 6 (fun kv sv wx=>AyO src B b q k g v N n Q w x0 kv sv wx)
 case first=>
  go_wp2_with fail
  go_loopw [4,5] (fun kv sv wr=>AyI src B b q k g v N n Q w x0 kv sv wr) (fun _ _ wr=>rwM wr b)
  case atStart=>exact HST.out
  case round=>
   rcases hrel with ⟨k',g',n',vv,M2,js,ys,hG⟩ | ⟨k',g',pl,z,vv,M2,js,hB⟩
   ·obtain ⟨m,rfl⟩:∃ m,n'=m+1:=⟨n' - 1,by have:=hG.fu;omega⟩
    obtain rfl:=hG.sv
    obtain ⟨y124,h124⟩:∃ y,saw src k' 124=y:=⟨_,rfl⟩
    have pa:=hG.ps.pr
    have hk2:=hG.k2
    have hk1:=hG.k1
    obtain ⟨sx,hsx⟩:∃ sx,rawL ys+(ys.length - 1)=sx:=⟨_,rfl⟩
    have HG:=hid hG
    have HX:=hid hsx
    have HM:Hid (rwM wr b=3001 - k'):=hid (by rw [pa.rwM];rfl)
    rw [hsx]
    clear hG hsx
    go_wp2_with fail
    refine (okR_any pa (v:=true) (by simp)).mono ?_
    rintro e w10 ⟨rfl,rfl⟩
    go_wp2_with fail
    refine (takeR_any 124 pa h124).mono ?_
    rintro e w11 ⟨rfl,p11,k11⟩
    clear pa
    cases y124 with
    | false=>
     have H11:=hid (And.intro k11 p11)
     clear k11 p11
     go_wp2_with fail
     go_meet
     case rel=>
      rw [←HX.out]
      exact HG.out.over h124 H11.out.1 H11.out.2
    | true=>
     have p11:Pr w11 b q src (k'+1) (-1):=p11
     have hlt:=saw_lt h124
     have P11:=HG.out.ps.move k11 (by simp) p11
     obtain ⟨NM,hNM⟩:∃ NM,NM=N++M2:=⟨_,rfl⟩
     rw [←hNM] at P11
     have hnl:NM.length+6 * (src.size - (k'+1))≤90000:=by have:=HG.out.ml;rw [hNM,List.length_append];omega
     have H11:=hid k11
     clear k11 p11
     go_wp2_with fail
     refine (HP.out m (k'+1) g' w11 vv NM (by have:=HG.out.n1;omega) P11 (by omega) hlt HG.out.g9 (by have:=HG.out.fu;omega) hnl).mono ?_
     rintro e w12 ⟨i,v12,M12,rfl,k12,f12,hi13,hm⟩
     have hi12:i < (NM++M12).length:=by omega
     clear hi13
     clear P11
     obtain ⟨y,hy⟩:∃ y,(NM++M12)[i]? = some y:=⟨_,List.getElem?_eq_getElem hi12⟩
     obtain ⟨l',g2,bd,p12,hl12⟩:∃ l' g2 bd,Ps w12 B b q src l' g2 bd v12 (NM++M12)∧M12.length≤6 * (src.size - (k'+1))+3:=by
      cases hp:rowP src m (k'+1) g' with
      | error pl=>
       rw [hp] at hm
       obtain ⟨l',g2,p12,hl⟩:=hm
       exact ⟨l',g2,_,p12,by omega⟩
      | ok pp=>
       obtain ⟨l,g2,xs⟩:=pp
       rw [hp] at hm
       exact ⟨l,g2,_,hm.1,by have:=hm.2.2.1;omega⟩
     have hmid:=(HG.out.mid H11.out k12 f12).1
     rw [←hNM] at hmid
     obtain ⟨zy,hzy⟩:∃ z,y.1.size=z:=⟨_,rfl⟩
     obtain ⟨z1,wz1⟩:∃ z,IntKind.i64.wrap ((sx:Int)+1)=z:=⟨_,rfl⟩
     obtain ⟨z2,wz2⟩:∃ z,IntKind.i64.wrap (z1+zy)=z:=⟨_,rfl⟩
     have OWN:Hid ((w12.alloc (.cells #[.int .i64 (i:Nat)] 3)).ownsRow B 3 1 u4 js.length (js.map fun (j:Nat)=>Value.int .i64 j)):=hid (own_kp hmid.kd.own (Kp.alloc [] w12 _) (by simp))
     have HSZ:Hid (B≤(w12.alloc (.cells #[.int .i64 (i:Nat)] 3)).heap.size):=hid (Nat.le_trans p12.hB (Kp.alloc [] w12 _).size)
     have hjl:js.length≤3000:=by have:=HG.out.jl;omega
     have hW:w.heap.size≤w12.heap.size:=(HG.out.mid H11.out k12 f12).2.1.kp.size
     have fin:∀ (w8:World) (gb cap:Nat),w8.ownsRow B 3 1 (.slice (some ⟨gb,0,none⟩) (js.length+1) cap) (js.length+1) ((js.map fun (j:Nat)=>Value.int .i64 j)++[.int .i64 (i:Nat)])→(w12.alloc (.cells #[.int .i64 (i:Nat)] 3)).grownBy w8 u4.ownBlock→(u4.ownBlock=some gb∨(w12.alloc (.cells #[.int .i64 (i:Nat)] 3)).heap.size≤gb) →
       AyI src B b q k g v N n Q w x0 (.slice (some ⟨gb,0,none⟩) (js.length+1) cap) (.int .i64 z2) w8∧rwM w8 b < 3001 - k'∧Ps w8 B b q src l' g2 bd v12 (NM++M12):=by
      intro w8 gb cap ho hg hor
      have hka:=Kp.alloc [] w12 (.cells #[.int .i64 (i:Nat)] 3)
      have hp8:=(hmid.push p12 hW hka ho hg hor).2.1
      suffices hh:AyI src B b q k g v N n Q w x0 (.slice (some ⟨gb,0,none⟩) (js.length+1) cap) (.int .i64 z2) w8∧rwM w8 b < 3001 - k' from ⟨hh.1,hh.2,hp8⟩
      rw [hNM] at hy hi12 hm
      cases hp:rowP src m (k'+1) g' with
      | error pl=>
       rw [hp] at hm
       obtain ⟨l6,g6,p6,hl⟩:=hm
       have hB:=HG.out.fail_ (z:=z2) h124 hp H11.out k12 f12 p6 (by omega) hka ho hg hor
       exact ⟨.inr ⟨_,_,_,_,_,_,_,hB⟩,by rw [hB.ps.pr.rwM,if_neg (by omega)];omega⟩
      | ok pp=>
       obtain ⟨l,g6,xs⟩:=pp
       rw [hp] at hm
       obtain ⟨p6,hr6,hl⟩:=hm
       have hq:=HR.out m (k'+1) g' l g6 xs (by have:=HG.out.n1;omega) (by omega) hlt HG.out.g9 (by have:=HG.out.fu;omega) hp
       have hS:=HG.out.step h124 hp hq H11.out k12 f12 hi12 p6 hr6 hl hka ho hg hor
       rw [HX.out] at hS
       have ez:z2=((sx+1+rawL xs:Nat):Int):=by
        obtain ⟨y',e1,e2⟩:=hr6.at_
        rw [hy] at e1
        cases e1
        rw [hzy,Pn.raw] at e2
        have b1:=hS.raw
        rw [rawL_snoc,Pn.raw] at b1
        have b2:(l - k) * Q≤100 * Q:=Nat.mul_le_mul_right _ (by omega)
        have b3:=HG.out.jl
        have b4:=HG.out.bs.len
        have b5:=HX.out
        have c1:z1=((sx+1:Nat):Int):=by rw [←wz1,IntKind.wrap_i64];omega
        rw [←wz2,c1,e2,IntKind.wrap_i64];omega
       rw [ez]
       exact ⟨.inl ⟨_,_,_,_,_,_,_,hS⟩,by rw [hS.ps.pr.rwM,if_pos (by omega)];omega⟩
     have HF:=hid fin
     have hnn:(NM++M12).length≤100000:=by rw [List.length_append];omega
     clear fin hm hmid p12 k12 f12 hi12 hl12 hW
     go_wp2_with (at_builtin;refine wpList_app rfl _ _ 60 rfl B 3 i0 (.int .i64 0) 1 8 Tryz.underlying60 HI.out.1 HI.out.2.1 HI.out.2.2.1 HI.out.2.2.2 rfl (by decide) u4 js.length (js.map fun (j:Nat)=>Value.int .i64 j) rfl OWN.out ⟨w12.heap.size,0,none⟩ 1 1 [.int .i64 (i:Nat)] rfl rfl (fun j u hu=>by rw [Addr.add_mid,Nat.zero_add];exact (Bl.alloc w12 [.int .i64 (i:Nat)] 3).at_ j u hu) (fun u hu=>by simp at hu;subst hu;rfl) (by unfold maxLen;omega) (by omega) HSZ.out (by omega) ?_;intro gb cap w8 ho hgr hor)
     obtain ⟨hI8,hM8,hP8⟩:=HF.out w8 gb cap ho hgr hor
     have H8:=hid (And.intro hI8 hM8)
     clear hI8 hM8 ho hgr hor
     refine (sizeOf_any hP8 hy hnn).mono ?_
     rw [hzy]
     rintro e w9 ⟨rfl,rfl⟩
     clear hP8 hy hzy
     go_wp2_with fail
     go_roundw
     ·exact H8.out.1
     ·rw [HM.out];exact H8.out.2
   ·have pa:=hB.ps.pr
    have HB:=hid hB
    clear hB
    go_wp2_with fail
    refine (okR_any pa (v:=false) (by simp)).mono ?_
    rintro e w10 ⟨rfl,rfl⟩
    go_wp2_with fail
    go_meet
    case rel=>exact .inr ⟨k',g',pl,z,vv,M2,js,HB.out⟩
 case rest=>
  rcases hcut with ⟨k',g',n',vv,M2,js,ys,hG,he⟩ | ⟨k',g',pl,z,vv,M2,js,hB⟩
  ·obtain ⟨a,c,rfl⟩:=hG.kl.kd.form
   obtain rfl:=hG.sv
   by_cases h1:js.length=1
   ·have q1:((js.length:Int) == 1)=true:=by simp [h1]
    have HG:=hid (hG.one_ he h1)
    clear hG he
    go_wp2_with fail
    go_ret
    exact HG.out
   ·have q1:((js.length:Int) == 1)=false:=by rw [beq_eq_false_iff_ne];omega
    obtain ⟨sx,hsx⟩:∃ sx,rawL ys+(ys.length - 1)=sx:=⟨_,rfl⟩
    obtain ⟨NM,hNM⟩:∃ NM,NM=N++M2:=⟨_,rfl⟩
    have hnn:NM.length≤100000:=by have:=hG.ml;rw [hNM,List.length_append];omega
    have hP:=hG.ps
    rw [←hNM] at hP
    have en:=row_node6 a js.length c (sx:Nat) js
    have HG:=hid (And.intro hG (And.intro he (And.intro hP (And.intro hNM hsx))))
    rw [hsx]
    clear hG he hP hNM hsx
    go_wp2_with fail
    refine (node_push HG.out.2.2.1 ⟨6,noBytes,0,0,0,js,(sx:Nat)⟩ HG.out.1.kl.kd hnn).mono ?_
    rintro e w10 ⟨rfl,v10,p10,k10⟩
    have H10:Hid (RpO src B b q k v N 2 4 w (brsP src (n+1) k g) (.returned (.int .i64 NM.length)) w10):=hid (by
     obtain ⟨hG,he,_,hNM,hsx⟩:=HG.out
     rw [hNM,←hsx] at p10
     rw [hNM]
     exact hG.fin he hg h1 p10 k10)
    clear p10 k10
    go_wp2_with fail
    go_ret
    exact H10.out
  ·obtain ⟨a,c,rfl⟩:=hB.kl.kd.form
   obtain rfl:=hB.sv
   by_cases h1:js.length=1
   ·have q1:((js.length:Int) == 1)=true:=by simp [h1]
    have HG:=hid (hB.one_ h1)
    clear hB
    go_wp2_with fail
    go_ret
    exact HG.out
   ·have q1:((js.length:Int) == 1)=false:=by rw [beq_eq_false_iff_ne];omega
    obtain ⟨NM,hNM⟩:∃ NM,NM=N++M2:=⟨_,rfl⟩
    have hnn:NM.length≤100000:=by have:=hB.ml;rw [hNM,List.length_append];omega
    have hP:=hB.ps
    rw [←hNM] at hP
    have en:=row_node6 a js.length c z js
    have HG:=hid (And.intro hB (And.intro hP hNM))
    clear hB hP hNM
    go_wp2_with fail
    refine (node_push HG.out.2.1 ⟨6,noBytes,0,0,0,js,z⟩ HG.out.1.kl.kd hnn).mono ?_
    rintro e w10 ⟨rfl,v10,p10,k10⟩
    have H10:Hid (RpO src B b q k v N 2 4 w (brsP src (n+1) k g) (.returned (.int .i64 NM.length)) w10):=hid (by
     rw [HG.out.2.2] at p10 ⊢
     exact HG.out.1.fin p10 k10)
    clear p10 k10
    go_wp2_with fail
    go_ret
    exact H10.out
end
section
variable {src:ByteArray}
theorem rdA {n k g l g':Nat} {x:Pn} (h1:k < src.size) (h2:g≤9) (h3:src.size≤k+100) (h4:4 * (src.size - k)+1≤n) (e:atomP src n k g=.ok (l,g',x)):k < l∧l≤src.size∧g≤g'∧g'≤9:=by
 have:=(read_all src n).1 k g h1 h2 h3 h4;unfold AtomR at this;rw [e] at this;exact ⟨this.2.1,this.2.2.1,this.2.2.2.1,this.2.2.2.2.1⟩
theorem rdP {n k g l g':Nat} {x:Pn} (h1:k < src.size) (h2:g≤9) (h3:src.size≤k+100) (h4:4 * (src.size - k)+2≤n) (e:pieceP src n k g=.ok (l,g',x)):k < l∧l≤src.size∧g≤g'∧g'≤9:=by
 have:=(read_all src n).2.1 k g h1 h2 h3 h4;unfold PieceR at this;rw [e] at this;exact ⟨this.2.1,this.2.2.1,this.2.2.2.1,this.2.2.2.2.1⟩
theorem rdR {n k g l g':Nat} {x:List Pn} (h1:k≤src.size) (h2:g≤9) (h3:src.size≤k+100) (h4:4 * (src.size - k)+3≤n) (e:rowP src n k g=.ok (l,g',x)):k≤l∧l≤src.size∧g≤g'∧g'≤9:=by
 have:=(read_all src n).2.2.1 k g h1 h2 h3 h4;unfold RowR at this;rw [e] at this;exact ⟨this.2.1,this.2.2.1,this.2.2.2.1,this.2.2.2.2.1⟩
theorem rdB {n k g l g':Nat} {x:Pn} (h1:k≤src.size) (h2:g≤9) (h3:src.size≤k+100) (h4:4 * (src.size - k)+4≤n) (e:brsP src n k g=.ok (l,g',x)):k≤l∧l≤src.size∧g≤g'∧g'≤9:=by
 have:=(read_all src n).2.2.2.2 k g h1 h2 h3 h4;unfold BrsR at this;rw [e] at this;exact ⟨this.2.1,this.2.2.1,this.2.2.2.1,this.2.2.2.2.1⟩
theorem pw_side {r a e:Nat} (he:e≤10) (h:r≤a * 40 ^ e):r≤a * 40 ^ 10:=Nat.le_trans h (Nat.mul_le_mul_left _ (pw_mono he))
theorem pw_big {r a:Nat} (ha:a≤100) (h:r≤a * 40 ^ 10):r≤4000000000000000000:=Nat.le_trans h (Nat.le_trans (Nat.mul_le_mul_right _ ha) (by decide))
theorem pw_atom {r a e:Nat} (he:e≤9) (ha:a≤100) (h:r≤a * 40 ^ e):r≤400000000000000000:=Nat.le_trans h (Nat.le_trans (Nat.mul_le_mul ha (pw_mono he)) (by decide))
structure Pall (src:ByteArray) (B b q n:Nat):Prop where
 at_:∀ (k g:Nat) (w:World) (v:Value) (N:List Nw),Ps w B b q src k g (-1) v N→k < src.size→g≤9→src.size≤k+100→4 * (src.size - k)+1≤n→saw src k 124=false→saw src k 41=false→N.length+6 * (src.size - k)≤90000 →
  Calls Tryz.prog 210 #[.pointer (some ⟨b,0,none⟩)] w (RpO src B b q k v N 0 1 w (atomD src n k g))
 pc:∀ (k g:Nat) (w:World) (v:Value) (N:List Nw),Ps w B b q src k g (-1) v N→k < src.size→g≤9→src.size≤k+100→4 * (src.size - k)+2≤n→saw src k 124=false→saw src k 41=false→N.length+6 * (src.size - k)≤90000 →
  Calls Tryz.prog 167 #[.pointer (some ⟨b,0,none⟩)] w (RpO src B b q k v N 0 1 w (pieceP src n k g))
 rw_:∀ (k g:Nat) (w:World) (v:Value) (N:List Nw),Ps w B b q src k g (-1) v N→k≤src.size→g≤9→src.size≤k+100→4 * (src.size - k)+3≤n→N.length+6 * (src.size - k)≤90000 →
  Calls Tryz.prog 115 #[.pointer (some ⟨b,0,none⟩)] w (RpO src B b q k v N 1 3 w (rowR (rowP src n k g)))
 br:∀ (k g:Nat) (w:World) (v:Value) (N:List Nw),Ps w B b q src k g (-1) v N→k≤src.size→g≤9→src.size≤k+100→4 * (src.size - k)+4≤n→N.length+6 * (src.size - k)≤90000 →
  Calls Tryz.prog 66 #[.pointer (some ⟨b,0,none⟩)] w (RpO src B b q k v N 2 4 w (brsP src n k g))
theorem parse_all {B b q:Nat} (n:Nat):Pall src B b q n:=by
 induction n using Nat.strongRecOn with
 | ind n ih=>
  refine ⟨fun k g w v N h hk hg hs hf h124 h41 hn=>?_,fun k g w v N h hk hg hs hf h124 h41 hn=>?_,fun k g w v N h hk hg hs hf hn=>?_,fun k g w v N h hk hg hs hf hn=>?_⟩
  ·obtain ⟨m,rfl⟩:∃ m,n=m+1:=⟨n - 1,by omega⟩
   have I:=ih m (by omega)
   refine atom_any h hk hg h124 h41 hn (fun h40 hg9 l g' x e=>?_) (fun h40 hg9 w1 h1=>I.br (k+1) (g+1) w1 v N h1 (by omega) (by omega) (by omega) (by omega) (by omega))
   have r:=rdB (by omega) (by omega) (by omega) (by omega) e
   exact pw_big (a:=l - (k+1)) (by omega) (pw_side (by omega) ((raw_all src m).2.2.2.2 (k+1) (g+1) l g' x (by omega) (by omega) (by omega) (by omega) e))
  ·obtain ⟨m,rfl⟩:∃ m,n=m+1:=⟨n - 1,by omega⟩
   have I:=ih m (by omega)
   refine piece_any hg hk hn (fun l g' x e=>?_) (I.at_ k g w v N h hk hg hs (by omega) h124 h41 hn)
   unfold atomD at e
   split at e
   ·cases e;rw [Pn.raw];exact ⟨by omega,by omega⟩
   ·split at e
    ·cases e;rw [Pn.raw];exact ⟨by omega,by omega⟩
    ·have r:=rdA hk hg hs (by omega) e
     exact ⟨pw_atom (a:=l - k) (by omega) (by omega) ((raw_all src m).1 k g l g' x hk hg hs (by omega) e).2,r.2.1⟩
  ·refine row_any (Q:=40 ^ 10) h hk hs hg hf hn (by decide) (fun m k' g' w1 v1 N1 hm h1 h2 h3 h4 h5 h6 h7 h8=>(ih m hm).pc k' g' w1 v1 N1 h1 h3 h4 (by omega) h5 h6 h7 h8) (fun m k' g' l g2 x hm h2 h3 h4 h5 e=>?_)
   have r:=rdP h3 h4 (by omega) h5 e
   exact ⟨pw_side (by omega) ((raw_all src m).2.1 k' g' l g2 x h3 h4 (by omega) h5 e),r.1,r.2.1,r.2.2.2⟩
  ·obtain ⟨m,rfl⟩:∃ m,n=m+1:=⟨n - 1,by omega⟩
   refine any_any (Q:=40 ^ 10) h hk hs hg (by omega) hn (by decide) (fun m' k' g' w1 v1 N1 hm h1 h2 h3 h4 h5 h6=>(ih m' (by omega)).rw_ k' g' w1 v1 N1 h1 h3 h4 (by omega) h5 h6) (fun m' k' g' l g2 xs hm h2 h3 h4 h5 e=>?_)
   have r:=rdR h3 h4 (by omega) h5 e
   exact ⟨pw_side (by omega) ((raw_all src m').2.2.1 k' g' l g2 xs h3 h4 (by omega) h5 e),r.1,r.2.1,r.2.2.2⟩
end
section
variable {src:ByteArray} {w:World}
def parR (src:ByteArray) (r:Except Nat (Nat×Nat×Pn)):Except (Nat×Nat) (Nat×Pn):=match r with
 | .error pl=>.error (2,pl)
 | .ok (l,g,x)=>if l < src.size then .error (2,l) else if 300 < x.pi.sz then .error (3,src.size) else .ok (g,x)
def ParO (src:ByteArray) (w:World):Except (Nat×Nat) (Nat×Pn)→Ending→World→Prop
 | .error (E,pl),e,w'=>e=.returned (.tuple #[.pointer none,.int .i64 (E:Nat),.int .i64 (pl:Nat)])∧Kp [] w w'
 | .ok (G,x),e,w'=>∃ B b q k v N i,e=.returned (.tuple #[.pointer (some ⟨q,0,none⟩),.int .i64 0,.int .i64 0])∧Ps w' B b q src k G (-1) v N∧Rp N i x∧i+1=N.length∧N.length≤1000∧Kp [] w w'∧∀ j,j < N.length→∃ y,Rp N j y∧y.Ok∧∀ p,N[j]? = some p→p.1.kids.length≤1000∧∀ c∈p.1.kids,c < j
theorem parse_any (src:ByteArray) (w:World) (hsz:src.size≤9000000000000000000):Calls Tryz.prog 36 #[.string src] w (ParO src w (readP src 0)):=by
 by_cases h100:100 < src.size
 ·have er:readP src 0=.error (1,0):=by unfold readP;rw [if_pos (by omega)]
  have HE:=hid er
  have q1:(100:Int) < (src.size:Int):=by omega
  clear er
  go_enter Tryz.func36,Tryz.ntmps36
  go_wp2_with fail
  go_ret3
  rw [HE.out]
  exact ⟨rfl,Kp.refl _ _⟩
 ·have q1:¬ (100:Int) < (src.size:Int):=by omega
  obtain ⟨w1,hw1⟩:∃ w1,w1=w.alloc (.cells #[.slice none 0 0,.int .i64 0] 115):=⟨_,rfl⟩
  obtain ⟨q,hq⟩:∃ q,q=w.heap.size:=⟨_,rfl⟩
  obtain ⟨w2,hw2⟩:∃ w2,w2=w1.alloc (.cells #[.string src,.int .i64 0,.int .i64 (-1),.pointer (some ⟨q,0,none⟩)] 180):=⟨_,rfl⟩
  obtain ⟨b,hb⟩:∃ b,b=w.heap.size+1:=⟨_,rfl⟩
  have s1:w1.heap.size=b:=by rw [hw1,hb];simp
  have s2:w2.heap.size=b+1:=by rw [hw2,←s1];simp
  have Q1:Bl w1 q [.slice none 0 0,.int .i64 0]:=by rw [hw1,hq];exact Bl.alloc _ _ _
  have B2:Bl w2 b [.string src,.int .i64 0,.int .i64 (-1),.pointer (some ⟨q,0,none⟩)]:=by rw [hw2,←s1];exact Bl.alloc _ _ _
  have k1:Kp [] w w1:=by rw [hw1];exact Kp.alloc _ _ _
  have k2:Kp [] w1 w2:=by rw [hw2];exact Kp.alloc _ _ _
  have Q2:=Q1.keep k2 (by simp)
  have P0:Ps w2 w2.heap.size b q src 0 0 (-1) (.slice none 0 0) []:=⟨⟨B2.lt,by omega,by omega,B2.at_ 0 _ rfl,B2.at_ 1 _ rfl,B2.at_ 2 _ rfl,B2.at_ 3 _ rfl,B2.free⟩,Q2.at_ 0 _ rfl,Q2.at_ 1 _ rfl,Q2.free,World.ownsRow_nil _ _ _ _,fun p hp=>(by cases hp),B2.lt,Q2.lt,by omega,Nat.le_refl _⟩
  have HP:=hid P0
  have HK:=hid (And.intro (k1.trans k2) (And.intro hq hb))
  clear Q1 B2 k1 k2 Q2 P0 s1 s2
  go_enter Tryz.func36,Tryz.ntmps36
  go_upto_region 4 with fail
  rw [←hb,←hq,←hw1,←hw2]
  clear hb hq hw1 hw2
  clear w1
  obtain ⟨r,hr⟩:∃ r,brsP src (4 * (src.size - 0)+4) 0 0=r:=⟨_,rfl⟩
  have er:readP src 0=parR src r:=by
   rw [←hr]
   unfold readP parR
   rw [if_neg (by omega)]
   cases brsP src (4 * (src.size - 0)+4) 0 0 <;> rfl
  have HE:=hid er
  clear er
  go_wp2_with fail
  refine ((parse_all (4 * (src.size - 0)+4)).br 0 0 w2 (.slice none 0 0) [] HP.out (by omega) (by omega) (by omega) (Nat.le_refl _) (by simp;omega)).mono ?_
  rw [hr]
  rintro e w6 ⟨i,v6,M,rfl,k6,f6,hi6,hm⟩
  rw [List.nil_append] at hi6
  have hlo:w.heap.size≤q∧w.heap.size≤b:=by have:=HK.out.2;omega
  have kk:Kp [] w w6:=((HK.out.1.mono (T:=[b,q]) (by simp)).trans (k6.kp.mono (by simp [Value.ownBlock]))).news (fun x hx=>by
   have:x=b∨x=q:=by simpa using hx
   omega)
  have HK6:=hid kk
  clear k6 f6 kk HP
  cases r with
  | error pl=>
   obtain ⟨l6,g6,p6,hl6⟩:=hm
   have c2:=p6.pr.c2
   go_wp2_with fail
   refine (okR_any p6.pr (v:=false) (by simp)).mono ?_
   rintro e w7 ⟨rfl,rfl⟩
   go_wp2_with fail
   refine (okR_any p6.pr (v:=false) (by simp)).mono ?_
   rintro e w7 ⟨rfl,rfl⟩
   clear p6
   go_wp2_with fail
   go_quiet (fail)
   go_wp2_with fail
   go_ret3
   rw [HE.out]
   exact ⟨rfl,HK6.out.trans (Kp.drewN [] _ _)⟩
  | ok pp=>
   obtain ⟨l,g,x⟩:=pp
   obtain ⟨p6,hr6,hl6,ha6⟩:=hm
   rw [List.nil_append] at p6 hr6
   have hall:∀ j,j < M.length→∃ y,Rp M j y∧y.Ok∧∀ p,M[j]? = some p→p.1.kids.length≤1000∧∀ c∈p.1.kids,c < j:=fun j hj=>by
    have:=ha6 j (Nat.zero_le _) (by simpa using hj)
    simpa using this
   have HAL:=hid hall
   clear hall ha6
   have c1:=p6.pr.c1
   by_cases hls:l < src.size
   ·have q2:(l:Int) < (src.size:Int):=by omega
    go_wp2_with fail
    refine (okR_any p6.pr (v:=true) (by simp)).mono ?_
    rintro e w7 ⟨rfl,rfl⟩
    go_wp2_with fail
    refine (failR_first p6.pr l (by omega)).mono ?_
    rintro e w8 ⟨rfl,p8,k8⟩
    have HK8:Hid (Kp [] w w8):=hid (((HK6.out.mono (T:=[b]) (by simp)).trans k8).news (fun y hy=>by rw [List.mem_singleton.1 hy];exact hlo.2))
    have c2:=p8.c2
    clear k8 p6 c1 hr6 hl6
    go_wp2_with fail
    refine (okR_any p8 (v:=false) (by simp)).mono ?_
    rintro e w9 ⟨rfl,rfl⟩
    clear p8
    go_wp2_with fail
    go_quiet (fail)
    go_wp2_with fail
    go_ret3
    rw [HE.out]
    unfold parR
    dsimp only
    rw [if_pos hls]
    exact ⟨rfl,HK8.out.trans (Kp.drewN [] _ _)⟩
   ·have q2:¬ (l:Int) < (src.size:Int):=by omega
    obtain ⟨y,hy1,hy2⟩:=hr6.at_
    have hMl:M.length≤1000:=by omega
    have hok:x.Ok:=((nodes_ok src _).2.2.2.2 0 0 l g x (by omega) hr).1
    have esz:=hok.sz
    obtain ⟨sx,hsx⟩:∃ sx,x.raw=sx:=⟨_,rfl⟩
    rw [hsx] at esz hy2
    have hsx2:sx≤4000000000000000000:=by
     have rd:=rdB (src:=src) (by omega) (by omega) (by omega) (Nat.le_refl _) hr
     rw [←hsx]
     exact pw_big (a:=l - 0) (by omega) (pw_side (by omega) ((raw_all src _).2.2.2.2 0 0 l g x (by omega) (by omega) (by omega) (Nat.le_refl _) hr))
    have H6:=hid (And.intro p6 (And.intro hr6 (And.intro hi6 hMl)))
    have HS:=hid (And.intro esz hsx2)
    have c3:=p6.pr.c3
    clear hr6 hl6 hi6 esz hok hsx hr
    go_wp2_with fail
    refine (okR_any p6.pr (v:=true) (by simp)).mono ?_
    rintro e w7 ⟨rfl,rfl⟩
    go_wp2_with fail
    refine (okR_any p6.pr (v:=true) (by simp)).mono ?_
    rintro e w7 ⟨rfl,rfl⟩
    go_wp2_with fail
    refine (sizeOf_any p6 hy1 (by omega)).mono ?_
    rw [hy2]
    rintro e w7 ⟨rfl,rfl⟩
    clear p6 hy1 hy2
    by_cases h300:300 < sx
    ·have q3:(300:Int) < (sx:Int):=by omega
     go_wp2_with fail
     go_ret3
     rw [HE.out]
     unfold parR
     dsimp only
     rw [if_neg hls,if_pos (by have:=HS.out.1;omega)]
     exact ⟨rfl,HK6.out⟩
    ·have q3:¬ (300:Int) < (sx:Int):=by omega
     go_wp2_with fail
     go_ret3
     rw [HE.out]
     unfold parR
     dsimp only
     rw [if_neg hls,if_neg (by have:=HS.out.1;omega)]
     obtain ⟨p6,hr6,hi6,hMl⟩:=H6.out
     exact ⟨_,b,q,l,v6,M,i,rfl,p6,hr6,hi6,hMl,HK6.out,HAL.out⟩
end
