import Derived.Test.YtnfglkdkmcocnaaGreatDoorR31
set_option maxRecDepth 100000
set_option maxHeartbeats 16000000
set_option linter.all false
namespace Go.Proofs.YtnfglkdkmcocnaaGreatDoor
open Go.RowKit
section
variable {w0 w w' w1:World} {B b q:Nat} {src:ByteArray} {k g:Nat} {bad:Int} {v v' v1:Value} {N:List Nw}
theorem fRow_snoc:∀ (l:List Fm) (f:Fm) (n d:Nat),fRow (l++[f]) n d=fRow l n d++f.2 (n+fLen l) d
 | [],f,n,d=>by simp [fRow,fLen]
 | p::l,f,n,d=>by
  have ih:=fRow_snoc l f (n+p.1) d
  have e:fLen (p::l)=p.1+fLen l:=by simp [fLen]
  show p.2 n d++fRow (l++[f]) (n+p.1) d=(p.2 n d++fRow l (n+p.1) d)++_
  rw [ih,e,List.append_assoc,Nat.add_assoc]
theorem take_snocJ {α:Type} {l:List α} {t:Nat} {x:α} (h:l[t]? = some x):l.take (t+1)=l.take t++[x]:=by
 rw [List.take_add_one,h];rfl
theorem fLen_snoc (l:List Fm) (f:Fm):fLen (l++[f])=fLen l+f.1:=by simp [fLen]
theorem fLen_take (l:List Fm) (t:Nat):fLen (l.take t)≤fLen l:=by
 have e:fLen l=fLen (l.take t)+fLen (l.drop t):=by
  unfold fLen
  rw [←List.sum_append,←List.map_append,List.take_append_drop]
 omega
theorem steps_row {i d:Nat} {p:Nw} {ov:Value} {ss:List Sv} (hP:Ps w0 B b q src k g bad v N) (k0:Kp [] w0 w) (hi:N[i]? = some p) (hN:N.length≤1000) (o:Os w w0.heap.size ov ss) {fs:List Fm} (hk:p.1.kind=5) (hl:p.1.kids.length=fs.length) (hl1:fs.length≤1000) (hKid:∀ (t j:Nat) (f:Fm),p.1.kids[t]? = some j→fs[t]? = some f→StC w0 q j f) (hll:ss.length+fLen fs≤100000) (hd:d+fLen fs≤100000) :
  Calls Tryz.prog 70 #[.pointer (some ⟨q,0,none⟩),ov,.int .i64 (i:Nat),.int .i64 (d:Nat)] w (StO w w0.heap.size ov ss (fRow fs ss.length d)):=by
 have hPw:=hP.keep k0
 obtain ⟨gb,cg,hv,hlt,hcg,hcell⟩:=hPw.nodes hi
 obtain ⟨cn,hcn⟩:∃ cn,cn=ndC p.1 p.2:=⟨_,rfl⟩
 have hcl:cn.length=262:=by rw [hcn];exact ndC_len _ _
 have hc1:∀ u∈cn,u.oneCell'=true:=by rw [hcn];exact ndC_one _ (hPw.kd p (List.mem_of_getElem? hi)).one
 have RG:Hid (w.rangeAt gb (i * 262) cn):=hid (fun j u hu=>hcell j u (by rw [←hcl];exact (List.getElem?_eq_some_iff.1 hu).1) (by rw [←hcn];exact hu))
 have q0:=hPw.q0
 rw [hv] at q0
 have qi:(i:Int) < (N.length:Int):=by omega
 have qi0:(0:Int)≤(i:Int):=by omega
 have hA:=ndC_at p.1 p.2
 rw [←hcn] at hA
 obtain ⟨ka,kc,hkf,hkc⟩:=hP.kids hi
 rw [hkf] at hA
 have HA:=hid hA
 have HK:=hid hkc
 obtain ⟨xb,hxb⟩:∃ xb,xb=w.heap.size:=⟨_,rfl⟩
 obtain ⟨oa,oc,hof⟩:=o.form
 have HO:=hid (And.intro o (And.intro k0 (fun g (hg:ov.ownBlock=some g)=>o.lt g hg)))
 subst hof
 clear hkc hkf
 have HKid:=hid hKid
 clear hKid
 rw [hl] at HA
 clear hcell hP hPw hi hv hA hcn o
 go_enter Tryz.func70,Tryz.ntmps70
 go_upto_region 2 with (first | (show wpList _ _ _ (⟨_,.load 192 _,_,_,_,_⟩::_) _ _;refine wpList_load_mid rfl 192 (.tmp 25) rfl gb (i * 262) rfl cn _ RG.out Tryz.underlying192 rfl (by rw [hcl];exact Tryz.szNodeR) ?_) | (show wpList _ _ _ (⟨_,.store 192 _ _,_,_,_,_⟩::_) _ _;refine newVarR (w1:=w) rfl 192 (.tmp 9) (.tmp 26) rfl Tryz.zeroCells192.toList 192 cn rfl rfl (by rw [hcl];kernel_rfl) (by rw [hcl];exact Tryz.szNodeR) hc1 ?_;intro wA bA kA))
 rw [←hxb] at bA ⊢
 have HX:Hid (Hx w0 w wA (.slice oa ss.length oc) xb cn):=hid ⟨bA,kA,HO.out.2.1,hxb,HO.out.2.2⟩
 have G0:=hid (HX.out.start HO.out.1)
 have c0:=bA.at_ 0 _ HA.out.1
 clear bA kA hxb RG q0 qi qi0
 rw [hk] at c0
 go_wp2_with fail
 go_loopw [1,10] (fun ox kx wr=>∃ (t:Nat) (a:Option Addr) (c:Nat) (s2 ss2:List Sv),t≤fs.length∧kx=.int .i64 t∧ox=.slice a s2.length c∧Hid (s2=ss++ss2∧SvL ss2 (fRow (fs.take t) ss.length d)∧s2.length=ss.length+fLen (fs.take t)∧Gs wA w0.heap.size (.slice oa ss.length oc) wr (.slice a s2.length c) s2)) (fun _ kx _=>2000 - (intOf kx).toNat)
 case atStart=>exact ⟨0,oa,oc,ss,[],Nat.zero_le _,rfl,rfl,hid ⟨by simp,SvL.nil,by simp [fLen],G0.out⟩⟩
 case round=>
  obtain ⟨t,a2,c2,s2,ss2,ht,rfl,rfl,HR⟩:=hrel
  have dk:=(HX.out.bl' HR.out.2.2.2).at_ 260 _ HA.out.2.2.2.2.2.1
  by_cases htl:t < fs.length
  ·have q1:(t:Int) < (fs.length:Int):=by omega
   have q2:(0:Int)≤(t:Int):=by omega
   have hc1':IntKind.i64.wrap ((t:Int)+1)=((t+1:Nat):Int):=wrap_i64_succ t (t+1) rfl (by omega)
   obtain ⟨f,hf⟩:∃ f,fs[t]? = some f:=⟨_,List.getElem?_eq_getElem htl⟩
   obtain ⟨j,hj⟩:∃ j,p.1.kids[t]? = some j:=⟨_,List.getElem?_eq_getElem (by omega)⟩
   obtain ⟨gk,e1,e2,e3⟩:=HK.out t j hj
   have dj:=((HX.out.kp HR.out.2.2.2).cell (p:=⟨gk,t,none⟩) e2 (by simp)).trans e3
   rw [e1] at dk
   have HF:=hid (And.intro hf hj)
   have hb1:fLen (fs.take t)+f.1≤fLen fs:=by
    have:=fLen_take fs (t+1)
    rw [take_snocJ hf,fLen_snoc] at this
    exact this
   clear hf hj e1 e2 e3
   go_wp2_with fail
   refine ((HKid.out t j f HF.out.2 HF.out.1).go HX.out HR.out.2.2.2 (by have:=HR.out.2.2.1;omega) (by omega)).mono ?_
   rintro e w3 ⟨a3,c3,s3,ss3,rfl,hs3,hS3,hl3,G3⟩
   have H3:=hid (And.intro hs3 (And.intro hS3 (And.intro hl3 G3)))
   clear hs3 hS3 hl3 G3 dk dj
   go_wp2_with fail
   go_roundw
   ·obtain ⟨hs3,hS3,hl3,G3⟩:=H3.out
    obtain ⟨hs2,hS2,hl2,G2⟩:=HR.out
    rw [hl2] at hS3
    refine ⟨t+1,a3,c3,s3,ss2++ss3,by omega,by go_num,rfl,hid ⟨by rw [hs3,hs2,List.append_assoc],?_,?_,G3⟩⟩
    ·rw [take_snocJ HF.out.1,fRow_snoc]
     exact hS2.app hS3
    ·rw [take_snocJ HF.out.1,fLen_snoc];omega
   ·simp [intOf];omega
  ·have q1:¬ (t:Int) < (fs.length:Int):=by omega
   have et:t=fs.length:=by omega
   go_wp2_with fail
   go_ret
   obtain ⟨hs2,hS2,hl2,G2⟩:=HR.out
   rw [et,List.take_length] at hS2
   rw [hs2] at G2 ⊢
   exact HX.out.out G2 hS2
end
section
variable {w w' w1:World} {B b q:Nat} {src:ByteArray} {k g:Nat} {bad:Int} {v v' v1:Value} {N:List Nw}
structure Cu (W:Nat) (wt wx:World) (nb c n t:Nat) (T:Nat→List (Nat×Zt)) (l:List (Nat×Zt)) (lv:Value):Prop where
 lo:W≤nb
 hi:nb < wt.heap.size
 nc:n+1≤c
 free:∀ a,wx.frozen? ⟨nb,a,none⟩=false
 ot:∀ a,a≤n→a≠t→∃ la,wx.cell? ⟨nb,a,none⟩=some la∧Lw wx wt.heap.size la (T a)∧la.ownBlock≠some nb
 ce:wx.cell? ⟨nb,t,none⟩=some lv
 ow:Ow wx wt.heap.size lv l
 kp:Kp [nb] wt wx
 nl:∀ a,t < a→a≤n→wx.cell? ⟨nb,a,none⟩=some (.slice none 0 0)
variable {W nb c n t:Nat} {T:Nat→List (Nat×Zt)} {l l':List (Nat×Zt)} {lv lv':Value} {wt wx wy:World}
theorem Cu.start (h:Tu wt W wt.heap.size nb c n T) (nl:∀ a,t≤a→a≤n→wt.cell? ⟨nb,a,none⟩=some (.slice none 0 0)) (ht:t≤n):Cu W wt wt nb c n t T [] (.slice none 0 0):=
 ⟨h.lo,h.hi,h.nc,h.free,fun a ha _=>h.lw a ha,nl t (Nat.le_refl _) ht,Ow.nil _ _,Kp.refl _ _,fun a h1 h2=>nl a (by omega) h2⟩
theorem Cu.keep (h:Cu W wt wx nb c n t T l lv) (k:Kp [] wx wy):Cu W wt wy nb c n t T l lv:=by
 have hs:=h.kp.size
 have hnb:nb < wx.heap.size:=Nat.lt_of_lt_of_le h.hi hs
 have hc:∀ a,wy.cell? ⟨nb,a,none⟩=wx.cell? ⟨nb,a,none⟩:=fun a=>k.cell (p:=⟨nb,a,none⟩) hnb (by simp)
 refine ⟨h.lo,h.hi,h.nc,fun a=>(k.frozen (p:=⟨nb,a,none⟩) hnb (by simp)).trans (h.free a),fun a ha hne=>?_,(hc t).trans h.ce,h.ow.keep k (by simp),h.kp.trans (k.mono (by simp)),fun a h1 h2=>(hc a).trans (h.nl a h1 h2)⟩
 obtain ⟨la,e1,e2,e3⟩:=h.ot a ha hne
 exact ⟨la,(hc a).trans e1,e2.far k hs (by simp) (Nat.le_refl _),e3⟩
theorem Cu.step (h:Cu W wt wx nb c n t T l lv) (o:Ow wy wt.heap.size lv' l') (k:Kp lv.ownBlock.toList wx wy):Cu W wt (wy.setCell ⟨nb,t,none⟩ lv') nb c n t T l' lv':=by
 have hs:=h.kp.size
 have hnb:nb < wx.heap.size:=Nat.lt_of_lt_of_le h.hi hs
 have hlv:∀ g,lv.ownBlock=some g→wt.heap.size≤g:=fun g hg=>(h.ow.lt g hg).1
 have hn:nb∉lv.ownBlock.toList:=fun hm=>by have:=hlv nb (by simpa using hm);have:=h.hi;omega
 have hc:∀ a,wy.cell? ⟨nb,a,none⟩=wx.cell? ⟨nb,a,none⟩:=fun a=>k.cell (p:=⟨nb,a,none⟩) hnb hn
 have hset:Kp [nb] wy (wy.setCell ⟨nb,t,none⟩ lv'):=Kp.setCell (S:=[nb]) _ _ (by simp)
 have hoth:∀ a,a≠t→(wy.setCell ⟨nb,t,none⟩ lv').cell? ⟨nb,a,none⟩=wx.cell? ⟨nb,a,none⟩:=fun a ha=>by
  rw [cell_other _ (fun q=>by injection q with _ q2 _;exact ha q2.symm)];exact hc a
 refine ⟨h.lo,h.hi,h.nc,fun a=>?_,fun a ha hne=>?_,cell_same _ ((hc t).trans h.ce),?_,?_,fun a h1 h2=>(hoth a (by omega)).trans (h.nl a h1 h2)⟩
 ·have:=(k.frozen (p:=⟨nb,a,none⟩) hnb hn).trans (h.free a)
  simpa using this
 ·obtain ⟨la,e1,e2,e3⟩:=h.ot a ha hne
  refine ⟨la,(hoth a hne).trans e1,?_,e3⟩
  refine (e2.far k hs (fun g hg hm=>?_) (Nat.le_refl _)).far hset (Nat.le_trans hs k.size) (fun g hg hm=>?_) (Nat.le_refl _)
  ·have:=e2.lt hg
   have:=hlv g (by simpa using hm)
   omega
  ·rw [List.mem_singleton.1 hm] at hg;exact e3 hg
 ·refine o.keep hset (fun g hg hm=>?_)
  have:=(o.lt g hg).1
  rw [List.mem_singleton.1 hm] at this
  have:=h.hi
  omega
 ·have k2:Kp (nb::lv.ownBlock.toList) wt (wy.setCell ⟨nb,t,none⟩ lv'):=(h.kp.mono (by simp)).trans ((k.mono (fun x hx=>List.mem_cons_of_mem _ hx)).trans (hset.mono (by simp)))
  exact ⟨k2.os,k2.tape,k2.output,k2.size,fun i hi hm=>k2.block i hi fun hx=>by
   rcases List.mem_cons.1 hx with e | e
   ·exact hm (by rw [e];simp)
   ·have:=hlv i (by simpa using e);omega⟩
theorem Cu.fin (h:Cu W wt wx nb c n t T l lv):Tu wx W wx.heap.size nb c n (updT T t l):=by
 have hs:=h.kp.size
 refine ⟨h.lo,Nat.lt_of_lt_of_le h.hi hs,Nat.le_refl _,h.nc,h.free,fun a ha=>?_⟩
 unfold updT
 by_cases e:a=t
 ·rw [if_pos e,e]
  exact ⟨lv,h.ce,h.ow.lw,fun e=>by have:=(h.ow.lt nb e).1;have:=h.hi;omega⟩
 ·rw [if_neg e]
  obtain ⟨la,e1,e2,e3⟩:=h.ot a ha e
  exact ⟨la,e1,e2.far (Kp.refl [] _) hs (by simp) hs,e3⟩
end
section
variable {n:Nat} {V U V' U':Rt} {text:ByteArray}
theorem Mng.one (m:Nat→Bool):Mng text.size (vOne text m):=(RelV.one (G:=fun _=>False) m).mn
theorem Mng.edge (k:Nat):Mng text.size (vEdge text k):=(RelV.edge (G:=fun _=>False) k).mn
theorem Mng.group (g:Nat) (h:Mng n V):Mng n (vGroup g V):=fun i p hi hp=>by
 obtain ⟨r,hr,rfl⟩:=List.mem_map.1 hp
 exact h i r hi hr
theorem Mng.rows:∀ (l:List Rt),(∀ V∈l,Mng n V)→Mng n (vRow l)
 | [],_=>Mng.id
 | V::l,h=>(h V (by simp)).seq (Mng.rows l fun U hU=>h U (by simp [hU]))
theorem Mng.any:∀ (l:List Rt),(∀ V∈l,Mng n V)→Mng n (vAny l)
 | [],_=>fun i p _ hp=>by cases hp
 | V::l,h=>(h V (by simp)).or (Mng.any l fun U hU=>h U (by simp [hU]))
theorem Mng.rep (h:Mng text.size V) (a:Nat):∀ b,Mng text.size (vRep text V a b)
 | some x=>h.times (h.up _) a
 | none=>h.times (h.star rfl) a
mutual
theorem Mng.vt (text:ByteArray):∀ x:Pn,Mng text.size (x.vt text)
 | .one m=>by rw [Pn.vt];exact Mng.one m
 | .edge k=>by rw [Pn.vt];exact Mng.edge k
 | .group g x=>by rw [Pn.vt];exact (Mng.vt text x).group g
 | .rep x a b=>by rw [Pn.vt];exact (Mng.vt text x).rep a b
 | .row l=>by rw [Pn.vt];exact Mng.rows _ (Mng.vtL text l)
 | .brs l=>by rw [Pn.vt];exact Mng.any _ (Mng.vtL text l)
theorem Mng.vtL (text:ByteArray):∀ l:List Pn,∀ V∈vtL text l,Mng text.size V
 | []=>fun V hV=>by cases hV
 | x::l=>fun V hV=>by
  rw [Go.Proofs.YtnfglkdkmcocnaaGreatDoor.vtL] at hV
  rcases List.mem_cons.1 hV with e | e
  ·rw [e];exact Mng.vt text x
  ·exact Mng.vtL text l V e
end
def Eqw (n:Nat) (V V':Rt):Prop:=∀ a,a≤n→ddR V a=ddR V' a
theorem Eqw.refl (n:Nat) (V:Rt):Eqw n V V:=fun _ _=>rfl
theorem Eqw.symm (h:Eqw n V V'):Eqw n V' V:=fun a ha=>(h a ha).symm
theorem Eqw.trans {W:Rt} (h:Eqw n V V') (h2:Eqw n V' W):Eqw n V W:=fun a ha=>(h a ha).trans (h2 a ha)
theorem Eqw.seq (hV:Eqw n V V') (hU:Eqw n U U') (mV:Mng n V):Eqw n (vSeq V U) (vSeq V' U'):=fun a ha=>by
 show ddT (vSeq V U a)=ddT (vSeq V' U' a)
 rw [←dd_seq,←dd_seq]
 have e:ddT (V' a)=ddT (V a):=(hV a ha).symm
 rw [e]
 congr 1
 exact flatMap_same fun p hp=>by
  have:=hU p.1 (mV.dd ha hp).2
  rw [show ddT (U p.1)=ddT (U' p.1) from this]
theorem Eqw.or (hV:Eqw n V V') (hU:Eqw n U U'):Eqw n (vOr V U) (vOr V' U'):=fun a ha=>by
 show ddT (vOr V U a)=ddT (vOr V' U' a)
 rw [←dd_or,←dd_or,show ddT (V a)=ddT (V' a) from hV a ha,show ddT (U a)=ddT (U' a) from hU a ha]
theorem Eqw.group (g:Nat) (hV:Eqw n V V'):Eqw n (vGroup g V) (vGroup g V'):=fun a ha=>by
 have e:∀ W:Rt,ddR (vGroup g W) a=(ddR W a).map fun p=>(p.1,nu (nu p.2 (2 * g) a) (2 * g+1) p.1):=fun W=>frs_map (f:=fun p=>(p.1,nu (nu p.2 (2 * g) a) (2 * g+1) p.1)) (fun _=>rfl) _ _
 rw [e,e,hV a ha]
theorem Eqw.up (hV:Eqw n V V') (mV:Mng n V):∀ k,Eqw n (vUp V k) (vUp V' k)
 | 0=>Eqw.refl _ _
 | k+1=>(hV.seq (Eqw.up hV mV k) mV).or (Eqw.refl _ _)
theorem Eqw.times (hV:Eqw n V V') (hU:Eqw n U U') (mV:Mng n V):∀ k,Eqw n (vTimes V k U) (vTimes V' k U')
 | 0=>hU
 | k+1=>hV.seq (Eqw.times hV hU mV k) mV
theorem Eqw.star (hV:Eqw text.size V V') (mV:Mng text.size V) (mV':Mng text.size V'):Eqw text.size (vStar text V) (vStar text V'):=by
 have key:∀ j a,a≤text.size→text.size - a≤j→ddT (vStar text V a)=ddT (vStar text V' a):=by
  intro j
  induction j with
  | zero=>
   intro a ha hj
   rw [←dd_star mV ha,←dd_star mV' ha,show ddT (V' a)=ddT (V a) from (hV a ha).symm]
   congr 2
   refine flatMap_same fun p hp=>?_
   obtain ⟨h1,h2⟩:=List.mem_filter.1 hp
   have:=mV.dd ha h1
   have h2:p.1≠a:=by simpa using h2
   omega
  | succ j ih=>
   intro a ha hj
   rw [←dd_star mV ha,←dd_star mV' ha,show ddT (V' a)=ddT (V a) from (hV a ha).symm]
   congr 2
   refine flatMap_same fun p hp=>?_
   obtain ⟨h1,h2⟩:=List.mem_filter.1 hp
   have hm:=mV.dd ha h1
   have h2:p.1≠a:=by simpa using h2
   rw [ih p.1 hm.2 (by omega)]
 exact fun a ha=>key _ a ha (Nat.le_refl _)
theorem Eqw.rep (hV:Eqw text.size V V') (mV:Mng text.size V) (mV':Mng text.size V') (a:Nat):∀ b,Eqw text.size (vRep text V a b) (vRep text V' a b)
 | some x=>hV.times (hV.up mV _) mV a
 | none=>hV.times (hV.star mV mV') mV a
theorem Eqw.rows:∀ (l l':List Rt),l.length=l'.length→(∀ (t:Nat) V V',l[t]? = some V→l'[t]? = some V'→Eqw n V V'∧Mng n V)→Eqw n (vRow l) (vRow l')
 | [],[],_,_=>Eqw.refl _ _
 | V::l,V'::l',hl,h=>by
  have h0:=h 0 V V' rfl rfl
  exact h0.1.seq (Eqw.rows l l' (by simpa using hl) fun t U U' h1 h2=>h (t+1) U U' h1 h2) h0.2
theorem Eqw.any:∀ (l l':List Rt),l.length=l'.length→(∀ (t:Nat) V V',l[t]? = some V→l'[t]? = some V'→Eqw n V V')→Eqw n (vAny l) (vAny l')
 | [],[],_,_=>Eqw.refl _ _
 | V::l,V'::l',hl,h=>(h 0 V V' rfl rfl).or (Eqw.any l l' (by simpa using hl) fun t U U' h1 h2=>h (t+1) U U' h1 h2)
theorem Eqw.one {m m':Nat→Bool} (h:∀ c,c < 256→m c=m' c):Eqw text.size (vOne text m) (vOne text m'):=fun a ha=>by
 have e:vOne text m a=vOne text m' a:=by
  unfold vOne
  split
  ·rw [h _ (UInt8.toNat_lt _)]
  ·rfl
 show ddT _=ddT _
 rw [e]
theorem Eqw.brs1 (V:Rt):Eqw n (vAny [V]) V:=fun a _=>by
 have e:vAny [V] a=V a:=by simp [vAny,vOr]
 show ddT _=ddT _
 rw [e]
end
theorem vtL_get (text:ByteArray) (l:List Pn) (t:Nat):(vtL text l)[t]? = (l[t]?).map (Pn.vt text):=by rw [vtL_map,List.getElem?_map]
theorem vt_brs1 (text:ByteArray) (x:Pn):Eqw text.size ((Pn.brs [x]).vt text) (x.vt text):=by
 rw [Pn.vt,Go.Proofs.YtnfglkdkmcocnaaGreatDoor.vtL,Go.Proofs.YtnfglkdkmcocnaaGreatDoor.vtL];exact Eqw.brs1 _
theorem Rp.strip {N:List Nw} {i:Nat} {y:Pn} (text:ByteArray) (h:Rp N i y):∃ y',Rp N i y'∧(∀ z,y'≠.brs [z])∧Eqw text.size (y.vt text) (y'.vt text):=by
 induction h with
 | one hi hk hz hm=>exact ⟨_,.one hi hk hz hm,fun z e=>(by cases e),Eqw.refl _ _⟩
 | edge hi he hk hz=>exact ⟨_,.edge hi he hk hz,fun z e=>(by cases e),Eqw.refl _ _⟩
 | group hi hk hg hs hj hz h _=>exact ⟨_,.group hi hk hg hs hj hz h,fun z e=>(by cases e),Eqw.refl _ _⟩
 | rep hi hk ha hb hs hj hz h _=>exact ⟨_,.rep hi hk ha hb hs hj hz h,fun z e=>(by cases e),Eqw.refl _ _⟩
 | row hi hk hl hj hz h _=>exact ⟨_,.row hi hk hl hj hz h,fun z e=>(by cases e),Eqw.refl _ _⟩
 | brs1 _ ih=>
  obtain ⟨y',h1,h2,h3⟩:=ih
  exact ⟨y',h1,h2,(vt_brs1 text _).trans h3⟩
 | brs hi hk h2 hl hj hz h _=>exact ⟨_,.brs hi hk h2 hl hj hz h,fun z e=>(by cases e;simp at h2),Eqw.refl _ _⟩
theorem rp_eqw {N:List Nw} {text:ByteArray} {i:Nat} {x:Pn} (h:Rp N i x):∀ y,Rp N i y→Eqw text.size (x.vt text) (y.vt text):=by
 induction h with
 | one hi hk hz hm=>
  intro y hy
  obtain ⟨y',hy',hn,he⟩:=hy.strip text
  refine Eqw.trans ?_ he.symm
  cases hy' with
  | one hi' hk' hz' hm'=>rw [hi] at hi';cases hi';rw [Pn.vt,Pn.vt];exact Eqw.one fun c hc=>(hm c hc).symm.trans (hm' c hc)
  | brs1 _=>exact absurd rfl (hn _)
  | edge hi' he hk' hz'=>rw [hi] at hi';cases hi';omega
  | group hi' hk'=>rw [hi] at hi';cases hi';omega
  | rep hi' hk'=>rw [hi] at hi';cases hi';omega
  | row hi' hk'=>rw [hi] at hi';cases hi';omega
  | brs hi' hk'=>rw [hi] at hi';cases hi';omega
 | edge hi he hk hz=>
  intro y hy
  obtain ⟨y',hy',hn,heq⟩:=hy.strip text
  refine Eqw.trans ?_ heq.symm
  cases hy' with
  | one hi' hk' hz' hm'=>rw [hi] at hi';cases hi';omega
  | brs1 _=>exact absurd rfl (hn _)
  | @edge _ _ e' hi' he' hk' hz'=>
   rw [hi] at hi';cases hi'
   rw [show e'=_ from Nat.succ.inj (hk'.symm.trans hk)]
   exact Eqw.refl _ _
  | group hi' hk'=>rw [hi] at hi';cases hi';omega
  | rep hi' hk'=>rw [hi] at hi';cases hi';omega
  | row hi' hk'=>rw [hi] at hi';cases hi';omega
  | brs hi' hk'=>rw [hi] at hi';cases hi';omega
 | group hi hk hg hs hj hz h ih=>
  intro y hy
  obtain ⟨y',hy',hn,heq⟩:=hy.strip text
  refine Eqw.trans ?_ heq.symm
  cases hy' with
  | one hi' hk' hz' hm'=>rw [hi] at hi';cases hi';omega
  | brs1 _=>exact absurd rfl (hn _)
  | edge hi' he' hk' hz'=>rw [hi] at hi';cases hi';omega
  | group hi' hk' hg' hs' hj' hz' h'=>
   rw [hi] at hi';cases hi'
   rw [hs] at hs';cases hs'
   rw [hg] at hg';cases hg'
   rw [Pn.vt,Pn.vt]
   exact (ih _ h').group _
  | rep hi' hk'=>rw [hi] at hi';cases hi';omega
  | row hi' hk'=>rw [hi] at hi';cases hi';omega
  | brs hi' hk'=>rw [hi] at hi';cases hi';omega
 | rep hi hk ha hb hs hj hz h ih=>
  intro y hy
  obtain ⟨y',hy',hn,heq⟩:=hy.strip text
  refine Eqw.trans ?_ heq.symm
  cases hy' with
  | one hi' hk' hz' hm'=>rw [hi] at hi';cases hi';omega
  | brs1 _=>exact absurd rfl (hn _)
  | edge hi' he' hk' hz'=>rw [hi] at hi';cases hi';omega
  | group hi' hk' hg' hs' hj' hz' h'=>rw [hi] at hi';cases hi';omega
  | @rep _ _ _ x' a' b' hi' hk' ha' hb' hs' hj' hz' h'=>
   rw [hi] at hi';cases hi'
   rw [hs] at hs';cases hs'
   have ea:=ha.symm.trans ha'
   have eb:=hb.symm.trans hb'
   have ea:a'=_:=(Int.ofNat.inj ea).symm
   subst ea
   rename_i b0
   have eb:b'=b0:=by
    match b0,b',eb with
    | none,none,_=>rfl
    | some u,some v,e=>exact congrArg some (Int.ofNat.inj e).symm
    | none,some v,e=>simp at e
    | some u,none,e=>simp at e
   subst eb
   rw [Pn.vt,Pn.vt]
   exact (ih _ h').rep (Mng.vt text _) (Mng.vt text _) _ _
  | row hi' hk'=>rw [hi] at hi';cases hi';omega
  | brs hi' hk'=>rw [hi] at hi';cases hi';omega
 | @row i0 p0 xs0 hi hk hl hj hz h ih=>
  intro y hy
  obtain ⟨y',hy',hn,heq⟩:=hy.strip text
  refine Eqw.trans ?_ heq.symm
  cases hy' with
  | one hi' hk' hz' hm'=>rw [hi] at hi';cases hi';omega
  | brs1 _=>exact absurd rfl (hn _)
  | edge hi' he' hk' hz'=>rw [hi] at hi';cases hi';omega
  | group hi' hk' hg' hs' hj' hz' h'=>rw [hi] at hi';cases hi';omega
  | rep hi' hk'=>rw [hi] at hi';cases hi';omega
  | @row _ _ xs' hi' hk' hl' hj' hz' h'=>
   rw [hi] at hi';cases hi'
   rw [Pn.vt,Pn.vt]
   refine Eqw.rows _ _ (by rw [vtL_map,vtL_map,List.length_map,List.length_map];omega) fun t V V' h1 h2=>?_
   rw [vtL_get] at h1 h2
   obtain ⟨x1,e1,rfl⟩:=Option.map_eq_some_iff.1 h1
   obtain ⟨x2,e2,rfl⟩:=Option.map_eq_some_iff.1 h2
   obtain ⟨j,hjt⟩:∃ j,p0.1.kids[t]? = some j:=⟨_,List.getElem?_eq_getElem (by rw [hl];exact (List.getElem?_eq_some_iff.1 e1).1)⟩
   exact ⟨ih t j x1 hjt e1 x2 (h' t j x2 hjt e2),Mng.vt text x1⟩
  | brs hi' hk'=>rw [hi] at hi';cases hi';omega
 | brs1 _ ih=>exact fun y hy=>(vt_brs1 text _).trans (ih y hy)
 | @brs i0 p0 xs0 hi hk h2 hl hj hz h ih=>
  intro y hy
  obtain ⟨y',hy',hn,heq⟩:=hy.strip text
  refine Eqw.trans ?_ heq.symm
  cases hy' with
  | one hi' hk' hz' hm'=>rw [hi] at hi';cases hi';omega
  | brs1 _=>exact absurd rfl (hn _)
  | edge hi' he' hk' hz'=>rw [hi] at hi';cases hi';omega
  | group hi' hk' hg' hs' hj' hz' h'=>rw [hi] at hi';cases hi';omega
  | rep hi' hk'=>rw [hi] at hi';cases hi';omega
  | row hi' hk'=>rw [hi] at hi';cases hi';omega
  | @brs _ _ xs' hi' hk' h2' hl' hj' hz' h'=>
   rw [hi] at hi';cases hi'
   rw [Pn.vt,Pn.vt]
   refine Eqw.any _ _ (by rw [vtL_map,vtL_map,List.length_map,List.length_map];omega) fun t V V' h1 h2=>?_
   rw [vtL_get] at h1 h2
   obtain ⟨x1,e1,rfl⟩:=Option.map_eq_some_iff.1 h1
   obtain ⟨x2,e2,rfl⟩:=Option.map_eq_some_iff.1 h2
   obtain ⟨j,hjt⟩:∃ j,p0.1.kids[t]? = some j:=⟨_,List.getElem?_eq_getElem (by rw [hl];exact (List.getElem?_eq_some_iff.1 e1).1)⟩
   exact ih t j x1 hjt e1 x2 (h' t j x2 hjt e2)
