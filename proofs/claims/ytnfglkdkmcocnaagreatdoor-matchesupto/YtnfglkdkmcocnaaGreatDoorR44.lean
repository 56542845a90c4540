import Derived.Test.YtnfglkdkmcocnaaGreatDoorR33
set_option maxRecDepth 100000
set_option maxHeartbeats 16000000
set_option linter.all false
namespace Go.Proofs.YtnfglkdkmcocnaaGreatDoor
open Go.RowKit
section
variable {w w' w1:World} {B b q:Nat} {src:ByteArray} {k g:Nat} {bad:Int} {v v' v1:Value} {N:List Nw}
abbrev grW (gn t:Nat) (p:Nat×Zt):Nat×Zt:=(p.1,nu (nu p.2 (2 * gn) t) (2 * gn+1) p.1)
theorem dd_grp (gn:Nat) (V:Rt) (t:Nat):(ddR V t).map (grW gn t)=ddR (vGroup gn V) t:=(frs_map (f:=grW gn t) (fun _=>rfl) _ _).symm
theorem table_group {text:ByteArray} {kidv:Value} {i:Nat} {p:Nw} (hP:Ps w B b q src k g bad v N) (hi:N[i]? = some p) (hN:N.length≤100000) (hn:text.size≤900) {m gn:Nat} {V:Rt} (hm:m≤w.heap.size) (hK:Ks w m kidv text.size [V]) (hV:Mng text.size V) (hk:p.1.kind=4) (hgn:p.1.num=gn) (hg9:gn≤9) :
  Calls Tryz.prog 71 #[.pointer (some ⟨q,0,none⟩),.int .i64 (i:Nat),.string text,kidv] w fun e w'=>∃ ov,e=.returned ov∧RpS w text.size (vGroup gn V) ov w':=by
 obtain ⟨gb,cg,hv,hlt,hcg,hcell⟩:=hP.nodes hi
 obtain ⟨cn,hcn⟩:∃ cn,cn=ndC p.1 p.2:=⟨_,rfl⟩
 have hcl:cn.length=262:=by rw [hcn];exact ndC_len _ _
 have hc1:∀ u∈cn,u.oneCell'=true:=by rw [hcn];exact ndC_one _ (hP.kd p (List.mem_of_getElem? hi)).one
 have RG:Hid (w.rangeAt gb (i * 262) cn):=hid (fun j u hu=>hcell j u (by rw [←hcl];exact (List.getElem?_eq_some_iff.1 hu).1) (by rw [←hcn];exact hu))
 have q0:=hP.q0
 rw [hv] at q0
 have qi:(i:Int) < (N.length:Int):=by omega
 have qi0:(0:Int)≤(i:Int):=by omega
 obtain ⟨n,hnn⟩:∃ n,n=text.size:=⟨_,rfl⟩
 have hmk:=fun w=>make_table1 w n (by omega)
 have hn1:IntKind.i64.wrap ((n:Int)+1)=((n+1:Nat):Int):=wrap_i64_succ n (n+1) rfl (by omega)
 have hA:=ndC_at p.1 p.2
 rw [←hcn] at hA
 have HA:=hid (And.intro hA hcn)
 obtain ⟨xb,hxb⟩:∃ xb,xb=w.heap.size:=⟨_,rfl⟩
 obtain ⟨j0,zj,hj,hz0,hz1,hz2,hz3⟩:=way_parts
 have HI:=hid (And.intro hj (And.intro hz0 (And.intro hz1 (And.intro hz2 hz3))))
 clear hj hz0 hz1 hz2 hz3
 obtain ⟨kb,ck,tv,hkv,hck,_,hkb,hkc,hkt⟩:=hK.at_ (j:=0) (V:=V) rfl
 obtain ⟨ta,ca,htv,hca,hta,hAc⟩:=hkt
 subst htv
 have HK:=hid (And.intro hAc (And.intro hkc (And.intro hkb (And.intro hta (And.intro hm hV)))))
 clear hK hAc hkc hkb hV
 subst hkv
 clear hcell hP hi hv hA hcn
 rw [←hnn] at hn ⊢
 have HNN:=hid hnn
 clear hnn
 go_enter Tryz.func71,Tryz.ntmps71
 go_upto_region 2 with (first | (refine wpList_load_mid rfl 192 (.tmp 27) rfl gb (i * 262) rfl cn _ RG.out Tryz.underlying192 rfl (by rw [hcl];exact Tryz.szNodeR) ?_) | (refine newVarR (w1:=w) rfl 192 (.tmp 9) (.tmp 28) rfl Tryz.zeroCells192.toList 192 cn rfl rfl (by rw [hcl];kernel_rfl) (by rw [hcl];exact Tryz.szNodeR) hc1 ?_;intro wA bA kA))
 rw [←hxb] at bA ⊢
 obtain ⟨wB,hwB⟩:∃ wB,wB=wA.alloc (.cells (nlC (n+1)) 194):=⟨_,rfl⟩
 obtain ⟨nb,hnb⟩:∃ nb,nb=wA.heap.size:=⟨_,rfl⟩
 have kB:Kp [] wA wB:=by rw [hwB];exact Kp.alloc _ _ _
 have sB:wB.heap.size=wA.heap.size+1:=by rw [hwB];simp
 have tB:Tu wB wA.heap.size wB.heap.size nb (n+1) n (fun _=>[]):=by
  have:=Tu.make wA n
  rw [←hwB,←sB] at this
  rw [hnb]
  exact this
 have xB:Bl wB xb cn:=bA.keep kB (by simp)
 have HNL:Hid (∀ a,0≤a→a≤n→wB.cell? ⟨nb,a,none⟩=some (.slice none 0 0)):=hid (fun a _ ha=>by rw [hwB,hnb];exact nil_made wA n a ha)
 have HB:=hid (And.intro tB (And.intro bA (And.intro kA (And.intro kB (And.intro hxb hnb)))))
 have c0:=xB.at_ 0 _ HA.out.1.1
 have sAx:=bA.lt
 clear hxb bA kA xB tB
 go_upto_region 3 with fail
 rw [←HNN.out]
 go_upto_region 4 with fail
 rw [←hwB,←hnb]
 clear kB sB hwB RG q0 qi qi0 hnb
 rw [hk] at c0
 have q9:(gn:Int) < 10:=by omega
 have q90:(0:Int)≤(gn:Int):=by omega
 go_wp2_with fail
 go_loopw [13] (fun iv wr=>∃ t:Nat,t≤n+1∧iv=.int .i64 t∧Tu wr wA.heap.size wr.heap.size nb (n+1) n (upto t (ddR (vGroup gn V)) fun _=>[])∧Kp [] wA wr∧Hid (∀ a,t≤a→a≤n→wr.cell? ⟨nb,a,none⟩=some (.slice none 0 0))) (fun iv _=>2000 - (intOf iv).toNat)
 case atStart=>exact ⟨0,Nat.zero_le _,rfl,HB.out.1.congr (fun x _=>by unfold upto;rw [if_neg (by omega)]),HB.out.2.2.2.1,HNL⟩
 case round=>
  obtain ⟨t,ht,rfl,tr,kr,hnl⟩:=hrel
  obtain ⟨wt,hwt⟩:∃ wt,wt=wr:=⟨_,rfl⟩
  by_cases htn:t≤n
  ·have q1:(t:Int)≤(n:Int):=by omega
   have q2:(t:Int) < ((n+1:Nat):Int):=by omega
   have q2b:(t:Int) < (n:Int)+1:=by omega
   have q2c:(t:Int) < (text.size:Int)+1:=by have:=HNN.out;omega
   have q3:(0:Int)≤(t:Int):=by omega
   have hc2:IntKind.i64.wrap ((t:Int)+1)=((t+1:Nat):Int):=wrap_i64_succ t (t+1) rfl (by omega)
   have hst:=Cu.start tr hnl.out htn
   rw [←hwt] at hst kr ⊢
   have HT:=hid (And.intro hst kr)
   obtain ⟨la,hla,hLa⟩:=HK.out.1 t (by have:=HNN.out;omega)
   obtain ⟨L,hL⟩:∃ L,ddR V t=L:=⟨_,rfl⟩
   have hmV:Mng n V:=by rw [HNN.out];exact HK.out.2.2.2.2.2
   have hlL:L.length≤1000:=by rw [←hL];have:=hmV.len htn;omega
   rw [hL] at hLa
   obtain ⟨lb0,lc,hform⟩:∃ aa ac,la=.slice aa L.length ac:=by
    rcases hLa with ⟨z1,z2⟩ | ⟨gb,c,z1,_⟩
    ·exact ⟨none,0,by rw [z1,z2];rfl⟩
    ·exact ⟨_,c,z1⟩
   subst hform
   have HO:=hid (And.intro hla (And.intro hLa hL))
   have hwsz:w.heap.size≤wt.heap.size:=Nat.le_trans HB.out.2.2.1.size kr.size
   clear tr kr hnl hst hwt hla hLa hL hmV
   go_wp2_with fail
   go_loopw [14] (fun jx wx=>∃ (jj:Nat) (lv:Value),jj≤L.length∧jx=.int .i64 jj∧Cu wA.heap.size wt wx nb (n+1) n t (upto t (ddR (vGroup gn V)) fun _=>[]) ((L.take jj).map (grW gn t)) lv) (fun jx _=>2000 - (intOf jx).toNat)
   case atStart=>exact ⟨0,_,Nat.zero_le _,rfl,HT.out.1⟩
   case round=>
    obtain ⟨jj,lv,hjl,rfl,hcu⟩:=hrel
    have kwx:Kp [] w wr:=((HB.out.2.2.1.trans HT.out.2).mono (T:=[nb]) (by simp)).trans hcu.kp |>.news (fun y hy=>by rw [List.mem_singleton.1 hy];exact Nat.le_trans HB.out.2.2.1.size hcu.lo)
    have kAx:Kp [] wA wr:=(HT.out.2.mono (T:=[nb]) (by simp)).trans hcu.kp |>.news (fun y hy=>by rw [List.mem_singleton.1 hy];exact hcu.lo)
    have d1:=(kwx.cell (p:=⟨kb,0,none⟩) (by show kb < _;have:=HK.out.2.2.1;omega) (by simp)).trans HK.out.2.1
    have d2:=(kwx.cell (p:=⟨ta,t,none⟩) (by show ta < _;omega) (by simp)).trans HO.out.1
    by_cases hjt:jj < L.length
    ·have hgj:L[jj]? = some L[jj]:=List.getElem?_eq_getElem hjt
     obtain ⟨r,hr⟩:∃ r,L[jj]=r:=⟨_,rfl⟩
     rw [hr] at hgj
     obtain ⟨gc,c3,z1,z2,_,s3⟩:=(HO.out.2.1.keep (m':=m) kwx hm (by simp) (Nat.le_refl _)).way hgj
     obtain ⟨rfl,_,rfl⟩:lb0=some ⟨gc,0,none⟩∧True∧lc=c3:=by injection z1 with z1 _ z3;exact ⟨z1,trivial,z3⟩
     have q6:(jj:Int) < (L.length:Int):=by omega
     have q7:(0:Int)≤(jj:Int):=by omega
     have hc4:IntKind.i64.wrap ((jj:Int)+1)=((jj+1:Nat):Int):=wrap_i64_succ jj (jj+1) rfl (by omega)
     have xr:=HB.out.2.1.keep kAx (by simp)
     have dn:=xr.at_ 257 _ HA.out.1.2.2.1
     rw [hgn] at dn
     have RGc:=hid s3
     have HC0:=hid hcu
     have hxl:=xr.lt
     clear hcu kwx z1 z2 hr s3 kAx xr
     go_upto_region 23 with (first | (show wpList _ _ _ (⟨_,.load 197 _,_,_,_,_⟩::_) _ _;refine wpList_load_mid rfl 197 (.tmp 95) rfl gc (jj * 21) rfl (wyC r) _ RGc.out Tryz.underlying197 rfl (by rw [wyC_len];exact Tryz.szWayR) ?_) | (show wpList _ _ _ (⟨_,.store 197 _ _,_,_,_,_⟩::_) _ _;refine newVarR (w1:=wr) rfl 197 (.tmp 15) (.tmp 96) rfl _ _ _ rfl rfl (by rw [wyC_len];rfl) (by rw [wyC_len];exact Tryz.szWayR) (wyC_one r) ?_;intro w2 b2 k2))
     have b2:Wb w2 wr.heap.size r:=b2
     obtain ⟨vb,hvb⟩:∃ vb,vb=wr.heap.size:=⟨_,rfl⟩
     rw [←hvb] at b2 ⊢
     have c2:=HC0.out.keep k2
     have dn2:=(k2.cell (World.block_lt_of_cell? _ _ dn) (by simp)).trans dn
     have hvx:xb≠vb:=by omega
     have g9':gn < 10:=by omega
     obtain ⟨y1,y2,_,_⟩:=Wb.get b2 g9'
     have b3:=Wb.from_ (e:=r.1) (z:=r.2) b2 g9' (t:Nat)
     obtain ⟨w3,hw3⟩:∃ w3,w3=w2.setCell ⟨vb,1+gn,none⟩ (.int .i64 (t:Nat)):=⟨_,rfl⟩
     have k3:Kp [vb] w2 w3:=by rw [hw3];exact Kp.setCell (S:=[vb]) w2 (p:=⟨vb,1+gn,none⟩) _ (by simp)
     rw [←hw3] at b3
     have dn3:=(k3.cell (World.block_lt_of_cell? _ _ dn2) (by simpa using hvx)).trans dn2
     have HB8:=hid (And.intro b3 (And.intro c2 (And.intro k2 (And.intro k3 hvb))))
     clear b2 b3 c2 k2 k3 dn d1 d2 hxl hvb
     go_upto_region 24 with fail
     rw [←hw3]
     clear y1 y2 dn2 hw3
     obtain ⟨_,_,y3,y4⟩:=Wb.get HB8.out.1 g9'
     have y0:=HB8.out.1.at_ 0 _ (wyC_at _).1
     obtain ⟨w8,hw8⟩:∃ w8,w8=w3.setCell ⟨vb,11+gn,none⟩ (.int .i64 (r.1:Nat)):=⟨_,rfl⟩
     have HB9:Hid (Wb w8 vb (grW gn t r)∧Kp [vb] w3 w8):=hid (by rw [hw8];exact ⟨Wb.to_ HB8.out.1 g9' (r.1:Nat),Kp.setCell (S:=[vb]) w3 (p:=⟨vb,11+gn,none⟩) _ (by simp)⟩)
     go_upto_region 25 with fail
     rw [←hw8]
     clear y0 y3 y4 hw8 dn3
     obtain ⟨l0,hl0⟩:∃ l0,(L.take jj).map (grW gn t)=l0:=⟨_,rfl⟩
     have HL0:=hid hl0
     have hl0l:l0.length≤1000:=by rw [←hl0,List.length_map];have:=List.length_take_le jj L;omega
     have k28:Kp [] wr w8:=((HB8.out.2.2.1.mono (T:=[vb]) (by simp)).trans (HB8.out.2.2.2.1.trans HB9.out.2)).news (fun y hy=>by rw [List.mem_singleton.1 hy,HB8.out.2.2.2.2];exact Nat.le_refl _)
     have c8:Cu wA.heap.size wt (w8.drew.alloc (.cells (wyC (grW gn t r)).toArray 197)) nb (n+1) n t (upto t (ddR (vGroup gn V)) fun _=>[]) l0 lv:=by
      rw [←hl0]
      exact HC0.out.keep (k28.trans ((Kp.drew [] w8).trans (Kp.alloc [] _ _)))
     have s0:w8.drew.cell? ⟨nb,t,none⟩=some lv:=(HC0.out.keep (k28.trans (Kp.drew [] w8))).ce
     have s3:w8.drew.rangeAt vb 0 (wyC (grW gn t r)):=rangeAt_keep HB9.out.1.range (Kp.drew [] w8) (by simp)
     have hov:∀ x,lv.ownBlock=some x→x < vb:=fun x hx=>by rw [HB8.out.2.2.2.2];exact (HC0.out.ow.lt x hx).2
     have HC:=hid (And.intro c8 hov)
     clear hl0 k28 c8 hov
     have hS:(fun w':World=>w'.cell? ⟨nb,t,none⟩=some lv∧w'.rangeAt vb 0 (wyC (grW gn t r))) w8.drew:=⟨s0,s3⟩
     refine wp_region_T (fun w':World=>w'.cell? ⟨nb,t,none⟩=some lv∧w'.rangeAt vb 0 (wyC (grW gn t r))) 10 (by kernel_rfl) ?_
     refine tk1 0 (v:=?_) rfl (by kernel_rfl) (fun _ _ _ h=>h) ⟨rfl,fun w hSw=>?_⟩ hS ?_;rotate_left;· ((try dsimp only at hSw);go_simp;(try with_reducible rfl))
     (try simp only [List.getElem_toArray,List.getElem_cons_succ,List.getElem_cons_zero,Act.put,List.setIfInBounds_toArray,List.set_cons_zero,List.set_cons_succ])
     refine tk1 1 (v:=?_) rfl (by kernel_rfl) (fun _ _ _ h=>h) ⟨rfl,fun w hSw=>?_⟩ hS ?_;rotate_left;· ((try dsimp only at hSw);go_simp;(try with_reducible rfl))
     (try simp only [List.getElem_toArray,List.getElem_cons_succ,List.getElem_cons_zero,Act.put,List.setIfInBounds_toArray,List.set_cons_zero,List.set_cons_succ])
     refine tk1 2 (v:=?_) rfl (by kernel_rfl) (fun _ _ _ h=>h) ⟨rfl,fun w hSw=>?_⟩ hS ?_;rotate_left;· ((try dsimp only at hSw);go_simp;(try with_reducible rfl))
     (try simp only [List.getElem_toArray,List.getElem_cons_succ,List.getElem_cons_zero,Act.put,List.setIfInBounds_toArray,List.set_cons_zero,List.set_cons_succ])
     refine tk1 3 (v:=?_) rfl (by kernel_rfl) (fun _ _ _ h=>h) ⟨rfl,fun w hSw=>?_⟩ hS ?_;rotate_left;· ((try dsimp only at hSw);go_simp;(try with_reducible rfl))
     (try simp only [List.getElem_toArray,List.getElem_cons_succ,List.getElem_cons_zero,Act.put,List.setIfInBounds_toArray,List.set_cons_zero,List.set_cons_succ])
     refine tk1 4 (v:=?_) rfl (by kernel_rfl) (fun _ _ _ h=>h) ⟨rfl,fun w hSw=>?_⟩ hS ?_;rotate_left;· ((try dsimp only at hSw);go_simp;(try with_reducible rfl))
     (try simp only [List.getElem_toArray,List.getElem_cons_succ,List.getElem_cons_zero,Act.put,List.setIfInBounds_toArray,List.set_cons_zero,List.set_cons_succ])
     refine tk1 5 (v:=?_) rfl (by kernel_rfl) (fun _ _ _ h=>h) ⟨rfl,fun w hSw=>?_⟩ hS ?_;rotate_left;· ((try dsimp only at hSw);go_simp;(try with_reducible rfl))
     (try simp only [List.getElem_toArray,List.getElem_cons_succ,List.getElem_cons_zero,Act.put,List.setIfInBounds_toArray,List.set_cons_zero,List.set_cons_succ])
     refine' wpAnyT_take (i:=6) (v:=_) rfl (by kernel_rfl) (by kernel_rfl) (by kernel_rfl) (by kernel_rfl) (fun _ _ _ h=>h) (yieldsIf_load_mid (by rfl) _ _ rfl _ _ rfl (wyC (grW gn t r)) _ ?hS6 ?hu6 ?hd6 ?hi6) hS ?r6
     case hS6=>(intro w hw;exact hw.2)
     case hu6=>exact Tryz.underlying197
     case hd6=>rfl
     case hi6=>exact (by rw [wyC_len];exact Tryz.szWayR)
     simp only [List.getElem_toArray,List.getElem_cons_succ,List.getElem_cons_zero,Act.put,List.setIfInBounds_toArray,List.set_cons_zero,List.set_cons_succ]
     refine wpAnyT_one (i:=7) (by kernel_rfl) rfl (fun K hK=>?_)
     refine step_one (by rfl) 194 197 (.tmp 114) (by rfl) (wyC (grW gn t r)) j0 _ 21 (by rfl) Tryz.underlying194 HI.out.1 HI.out.2.1 HI.out.2.2.1 HI.out.2.2.2.2 (wyC_len _) (by omega) (by omega) ?_
     have hS9:(fun w':World=>w'.cell? ⟨nb,t,none⟩=some lv∧w'.rangeAt vb 0 (wyC (grW gn t r))) (w8.drew.alloc (.cells (wyC (grW gn t r)).toArray 197)):=⟨HC.out.1.ce,rangeAt_keep hS.2 (Kp.alloc [] _ _) (by simp)⟩
     refine hK.out _ _ (.inr hS9) ?_
     clear hK K
     simp only [List.getElem_toArray,List.getElem_cons_succ,List.getElem_cons_zero,Act.put,List.setIfInBounds_toArray,List.set_cons_zero,List.set_cons_succ]
     refine wpAnyT_one (i:=8) (by kernel_rfl) rfl (fun K hK=>?_)
     refine step_append2 (by rfl) (.tmp 113) (.tmp 115) 194 (by rfl) wt.heap.size 197 j0 _ 21 168 Tryz.underlying194 HI.out.1 HI.out.2.1 HI.out.2.2.1 HI.out.2.2.2.1 HI.out.2.2.2.2 (by decide) lv l0.length (flatW l0) (by rfl) HC.out.1.ow ⟨w8.heap.size,0,none⟩ 1 1 (wyC (grW gn t r)) (by rfl) (by rw [wyC_len]) (fun j u hu=>by rw [Addr.add_mid,Nat.zero_add];exact (Bl.alloc w8.drew (wyC (grW gn t r)) 197).at_ j u hu) (wyC_one _) (by unfold maxLen;omega) (by omega) HC.out.1.kp.size (by omega) ?_
     intro gb2 cap w9 ho9 hg9' hor9
     have k9:Kp lv.ownBlock.toList (w8.drew.alloc (.cells (wyC (grW gn t r)).toArray 197)) w9:=kp_grownR hg9' (by simp)
     have hlo:∀ x∈lv.ownBlock.toList,wt.heap.size≤x∧x < vb:=fun x hx=>⟨(HC.out.1.ow.lt x (by simpa using hx)).1,HC.out.2 x (by simpa using hx)⟩
     have hS10:(fun w':World=>w'.cell? ⟨nb,t,none⟩=some lv∧w'.rangeAt vb 0 (wyC (grW gn t r))) w9:=⟨(k9.cell (World.block_lt_of_cell? _ _ hS9.1) (fun hx=>by have:=(hlo nb hx).1;have:=HC.out.1.hi;omega)).trans hS9.1,rangeAt_keep hS9.2 k9 (fun hx=>by have:=(hlo vb hx).2;omega)⟩
     have f9:w9.frozen? ⟨nb,t,none⟩=false:=(k9.frozen (p:=⟨nb,t,none⟩) (World.block_lt_of_cell? _ _ hS9.1) (fun hx=>by have:=(hlo nb hx).1;have:=HC.out.1.hi;omega)).trans (HC.out.1.free t)
     have o9:Ow w9 wt.heap.size (.slice (some ⟨gb2,0,none⟩) (l0.length+1) cap) (l0++[grW gn t r]):=by
      show World.ownsRow _ _ _ _ _ (l0++[grW gn t r]).length (flatW (l0++[grW gn t r]))
      rw [List.length_append,flatW_snoc];exact ho9
     have HS:=hid (HC.out.1.step o9 k9)
     refine hK.out _ _ (.inr hS10) ?_
     clear hK K k9 hlo o9 ho9 hg9' hor9 hS hS9 s0 s3
     refine wpAnyT_one (i:=9) (by kernel_rfl) rfl (fun K hK=>?_)
     go_simp
     refine hK.out _ _ (.inr hS10) ?_
     clear hK K
     have d10:=hS10.1
     clear hS10
     refine wpAnyT_one (i:=10) (by kernel_rfl) rfl (fun K hK=>?_)
     go_simp
     refine hK.out _ _ (.inl rfl) ?_
     clear hK K
     refine wpAnyT_done (by kernel_rfl) ?_ _
     go_wp2_with fail
     go_roundw
     ·refine ⟨jj+1,.slice (some ⟨gb2,0,none⟩) (l0.length+1) cap,by omega,by go_num,?_⟩
      rw [take_snoc hgj,List.map_append,HL0.out]
      exact HS.out
     ·simp [intOf];omega
    ·have q6:¬ (jj:Int) < (L.length:Int):=by omega
     have HC:=hid hcu
     clear hcu kwx kAx
     go_wp2_with fail
     go_roundw
     ·have hcu:=HC.out
      have ej:L.take jj=L:=List.take_of_length_le (by omega)
      rw [ej,←HO.out.2.2,dd_grp] at hcu
      refine ⟨t+1,by omega,by go_num,hcu.fin.congr (fun x _=>upto_step x),((HT.out.2.mono (by simp)).trans hcu.kp).news (fun y hy=>by rw [List.mem_singleton.1 hy];exact hcu.lo),hid (fun a h1 h2=>hcu.nl a (by omega) h2)⟩
     ·simp [intOf];omega
  ·have q1:¬ (t:Int)≤(n:Int):=by omega
   have HR:=hid (And.intro tr kr)
   clear tr kr hwt hnl
   go_wp2_with fail
   go_ret
   exact ⟨_,rfl,RpS.of HB.out.2.2.1 (HR.out.1.congr fun x hx=>by unfold upto;rw [if_pos (by omega)]) HR.out.2⟩
end
