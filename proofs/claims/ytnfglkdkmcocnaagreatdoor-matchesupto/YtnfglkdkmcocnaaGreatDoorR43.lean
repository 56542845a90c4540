import Derived.Test.YtnfglkdkmcocnaaGreatDoorR33
set_option maxRecDepth 100000
set_option maxHeartbeats 16000000
set_option linter.all false
namespace Go.Proofs.YtnfglkdkmcocnaaGreatDoor
open Go.RowKit
section
variable {w w' w1:World} {B b q:Nat} {src:ByteArray} {k g:Nat} {bad:Int} {v v' v1:Value} {N:List Nw}
abbrev brL (Vs:List Rt) (t kk:Nat):List (Nat×Zt):=(Vs.take kk).flatMap fun V=>ddR V t
theorem table_brs {text:ByteArray} {kidv:Value} {i:Nat} {p:Nw} (hP:Ps w B b q src k g bad v N) (hi:N[i]? = some p) (hN:N.length≤100000) (hn:text.size≤900) {m:Nat} {Vs:List Rt} (hm:m≤w.heap.size) (hK:Ks w m kidv text.size Vs) (hV:∀ V∈Vs,Mng text.size V) (hVl:Vs.length≤10000) (hk:p.1.kind=6) :
  Calls Tryz.prog 71 #[.pointer (some ⟨q,0,none⟩),.int .i64 (i:Nat),.string text,kidv] w fun e w'=>∃ ov,e=.returned ov∧RpS w text.size (vAny Vs) ov w':=by
 obtain ⟨gb,cg,hv,hlt,hcg,hcell⟩:=hP.nodes hi
 obtain ⟨cn,hcn⟩:∃ cn,cn=ndC p.1 p.2:=⟨_,rfl⟩
 have hcl:cn.length=262:=by rw [hcn];exact ndC_len _ _
 have hc1:∀ u∈cn,u.oneCell'=true:=by rw [hcn];exact ndC_one _ (hP.kd p (List.mem_of_getElem? hi)).one
 have RG:Hid (w.rangeAt gb (i * 262) cn):=hid (fun j u hu=>hcell j u (by rw [←hcl];exact (List.getElem?_eq_some_iff.1 hu).1) (by rw [←hcn];exact hu))
 have q0:=hP.q0
 rw [hv] at q0
 have qi:(i:Int) < (N.length:Int):=by omega
 have qi0:(0:Int)≤(i:Int):=by omega
 obtain ⟨n,hnn⟩:∃ n,n=text.size:=⟨_,rfl⟩
 have hmk:=fun w=>make_table1 w n (by omega)
 have hn1:IntKind.i64.wrap ((n:Int)+1)=((n+1:Nat):Int):=wrap_i64_succ n (n+1) rfl (by omega)
 have hA:=ndC_at p.1 p.2
 rw [←hcn] at hA
 have HA:=hid (And.intro hA hcn)
 obtain ⟨xb,hxb⟩:∃ xb,xb=w.heap.size:=⟨_,rfl⟩
 have HK:=hid (And.intro hK (And.intro hm hV))
 obtain ⟨ka0,kc0,hkf⟩:=hK.form
 subst hkf
 clear hK hV
 clear hcell hP hi hv hA hcn
 rw [←hnn] at hn ⊢
 have HNN:=hid hnn
 clear hnn
 go_enter Tryz.func71,Tryz.ntmps71
 go_upto_region 2 with (first | (refine wpList_load_mid rfl 192 (.tmp 27) rfl gb (i * 262) rfl cn _ RG.out Tryz.underlying192 rfl (by rw [hcl];exact Tryz.szNodeR) ?_) | (refine newVarR (w1:=w) rfl 192 (.tmp 9) (.tmp 28) rfl Tryz.zeroCells192.toList 192 cn rfl rfl (by rw [hcl];kernel_rfl) (by rw [hcl];exact Tryz.szNodeR) hc1 ?_;intro wA bA kA))
 rw [←hxb] at bA ⊢
 obtain ⟨wB,hwB⟩:∃ wB,wB=wA.alloc (.cells (nlC (n+1)) 194):=⟨_,rfl⟩
 obtain ⟨nb,hnb⟩:∃ nb,nb=wA.heap.size:=⟨_,rfl⟩
 have kB:Kp [] wA wB:=by rw [hwB];exact Kp.alloc _ _ _
 have sB:wB.heap.size=wA.heap.size+1:=by rw [hwB];simp
 have tB:Tu wB wA.heap.size wB.heap.size nb (n+1) n (fun _=>[]):=by
  have:=Tu.make wA n
  rw [←hwB,←sB] at this
  rw [hnb]
  exact this
 have xB:Bl wB xb cn:=bA.keep kB (by simp)
 have HNL:Hid (∀ a,0≤a→a≤n→wB.cell? ⟨nb,a,none⟩=some (.slice none 0 0)):=hid (fun a _ ha=>by rw [hwB,hnb];exact nil_made wA n a ha)
 have HB:=hid (And.intro tB (And.intro bA (And.intro kA (And.intro kB (And.intro hxb hnb)))))
 have c0:=xB.at_ 0 _ HA.out.1.1
 have sAx:=bA.lt
 clear hxb bA kA xB tB
 go_upto_region 3 with fail
 rw [←HNN.out]
 go_upto_region 4 with fail
 rw [←hwB,←hnb]
 clear kB sB hwB RG q0 qi qi0 hnb
 rw [hk] at c0
 have nl0:∀ a,0≤a→a≤n→wB.cell? ⟨nb,a,none⟩=some (.slice none 0 0):=HNL.out
 have HN0:=hid nl0
 clear nl0
 go_wp2_with fail
 go_loopw [19] (fun iv wr=>∃ t:Nat,t≤n+1∧iv=.int .i64 t∧Tu wr wA.heap.size wr.heap.size nb (n+1) n (upto t (ddR (vAny Vs)) fun _=>[])∧Kp [] wA wr∧Hid (∀ a,t≤a→a≤n→wr.cell? ⟨nb,a,none⟩=some (.slice none 0 0))) (fun iv _=>2000 - (intOf iv).toNat)
 case atStart=>exact ⟨0,Nat.zero_le _,rfl,HB.out.1.congr (fun x _=>by unfold upto;rw [if_neg (by omega)]),HB.out.2.2.2.1,HN0⟩
 case round=>
  obtain ⟨t,ht,rfl,tr,kr,hnl⟩:=hrel
  obtain ⟨wt,hwt⟩:∃ wt,wt=wr:=⟨_,rfl⟩
  by_cases htn:t≤n
  ·have q1:(t:Int)≤(n:Int):=by omega
   have q2:(t:Int) < ((n+1:Nat):Int):=by omega
   have q2b:(t:Int) < (n:Int)+1:=by omega
   have q3:(0:Int)≤(t:Int):=by omega
   have hc2:IntKind.i64.wrap ((t:Int)+1)=((t+1:Nat):Int):=wrap_i64_succ t (t+1) rfl (by omega)
   have hst:=Cu.start tr hnl.out htn
   rw [←hwt] at hst kr ⊢
   have HT:=hid (And.intro hst kr)
   clear tr kr hnl hst hwt
   go_wp2_with fail
   go_loopw [20] (fun kx wx=>∃ (kk:Nat) (lv:Value),kk≤Vs.length∧kx=.int .i64 kk∧Cu wA.heap.size wt wx nb (n+1) n t (upto t (ddR (vAny Vs)) fun _=>[]) (ddT (brL Vs t kk)) lv) (fun kx _=>20000 - (intOf kx).toNat)
   case atStart=>exact ⟨0,_,Nat.zero_le _,rfl,HT.out.1⟩
   case round=>
    obtain ⟨kk,lv,hkk,rfl,hcu⟩:=hrel
    by_cases hkl:kk < Vs.length
    ·have q4:(kk:Int) < (Vs.length:Int):=by omega
     have q5:(0:Int)≤(kk:Int):=by omega
     have hc3:IntKind.i64.wrap ((kk:Int)+1)=((kk+1:Nat):Int):=wrap_i64_succ kk (kk+1) rfl (by omega)
     obtain ⟨V,hVs⟩:∃ V,Vs[kk]? = some V:=⟨_,List.getElem?_eq_getElem hkl⟩
     obtain ⟨kb,ck,tv,hkv,_,_,hkb,hkc,hkt⟩:=HK.out.1.at_ hVs
     obtain ⟨rfl,rfl⟩:ka0=some ⟨kb,0,none⟩∧kc0=ck:=by injection hkv with e1 _ e3;exact ⟨e1,e3⟩
     obtain ⟨ta,ca,htv,hca,hta,hAc⟩:=hkt
     rw [←HNN.out] at htv hAc
     subst htv
     obtain ⟨la,hla,hLa⟩:=hAc t htn
     obtain ⟨L,hL⟩:∃ L,ddR V t=L:=⟨_,rfl⟩
     have hmV:Mng n V:=by rw [HNN.out];exact HK.out.2.2 V (List.mem_of_getElem? hVs)
     have hlL:L.length≤1000:=by rw [←hL];have:=hmV.len htn;omega
     rw [hL] at hLa
     obtain ⟨lb0,lc,hform⟩:∃ aa ac,la=.slice aa L.length ac:=by
      rcases hLa with ⟨z1,z2⟩ | ⟨gb,c,z1,_⟩
      ·exact ⟨none,0,by rw [z1,z2];rfl⟩
      ·exact ⟨_,c,z1⟩
     subst hform
     have hwsz:w.heap.size≤wt.heap.size:=Nat.le_trans HB.out.2.2.1.size HT.out.2.size
     have HO:=hid (And.intro hcu (And.intro hkc (And.intro hla (And.intro hLa (And.intro hL hVs)))))
     have hbnd:∀ j,(ddT (brL Vs t kk++L.take j)).length≤1000:=fun j=>Nat.le_trans (dd_len (n:=n) (fun y hy=>by
      rcases List.mem_append.1 hy with hy | hy
      ·obtain ⟨U,hU,hy⟩:=List.mem_flatMap.1 hy
       have:Mng n U:=by rw [HNN.out];exact HK.out.2.2 U (List.mem_of_mem_take hU)
       exact (this.dd htn hy).2
      ·exact (hmV.dd htn (by rw [hL];exact List.mem_of_mem_take hy)).2)) (by omega)
     have HQ:=hid hbnd
     have HZ0:=hid (And.intro hkb (And.intro hta hwsz))
     clear hcu hAc hkv hla hLa hL hkc hbnd hmV
     go_wp2_with fail
     go_loopw [21] (fun jx wx=>∃ (jj:Nat) (lv:Value),jj≤L.length∧jx=.int .i64 jj∧Cu wA.heap.size wt wx nb (n+1) n t (upto t (ddR (vAny Vs)) fun _=>[]) (ddT (brL Vs t kk++L.take jj)) lv) (fun jx _=>2000 - (intOf jx).toNat)
     case atStart=>exact ⟨0,lv,Nat.zero_le _,rfl,by simpa using HO.out.1⟩
     case round=>
      obtain ⟨jj,lv,hjl,rfl,hcu⟩:=hrel
      have kwx:Kp [] w wr:=((HB.out.2.2.1.trans HT.out.2).mono (T:=[nb]) (by simp)).trans hcu.kp |>.news (fun y hy=>by rw [List.mem_singleton.1 hy];exact Nat.le_trans HB.out.2.2.1.size hcu.lo)
      have s1:=(kwx.cell (p:=⟨kb,kk,none⟩) (by show kb < _;have:=HZ0.out.1;omega) (by simp)).trans HO.out.2.1
      have s2:=(kwx.cell (p:=⟨ta,t,none⟩) (by show ta < _;have:=HZ0.out.2.1;omega) (by simp)).trans HO.out.2.2.1
      by_cases hjt:jj < L.length
      ·have hgj:L[jj]? = some L[jj]:=List.getElem?_eq_getElem hjt
       obtain ⟨r,hr⟩:∃ r,L[jj]=r:=⟨_,rfl⟩
       rw [hr] at hgj
       obtain ⟨gc,c3,z1,z2,_,s3⟩:=(HO.out.2.2.2.1.keep (m':=m) kwx hm (by simp) (Nat.le_refl _)).way hgj
       obtain ⟨rfl,_,rfl⟩:lb0=some ⟨gc,0,none⟩∧True∧lc=c3:=by injection z1 with z1 _ z3;exact ⟨z1,trivial,z3⟩
       have hgc:gc < m:=HO.out.2.2.2.1.lt rfl
       have q6:(jj:Int) < (L.length:Int):=by omega
       have q7:(0:Int)≤(jj:Int):=by omega
       have hc4:IntKind.i64.wrap ((jj:Int)+1)=((jj+1:Nat):Int):=wrap_i64_succ jj (jj+1) rfl (by omega)
       have s0:=hcu.ce
       obtain ⟨fa0,fc0,hf0⟩:=hcu.ow.form
       have HZ:Hid (kb < wt.heap.size∧ta < wt.heap.size∧gc < wt.heap.size):=hid (by obtain ⟨z1,z2,z3⟩:=HZ0.out;exact ⟨by omega,by omega,by omega⟩)
       have HC:=hid (And.intro hcu (HQ.out jj))
       clear hcu kwx z1 z2 hr hgc hf0
       go_upto_region 47 with fail
       have hS:(fun w':World=>w'.cell? ⟨nb,t,none⟩=some lv∧w'.cell? ⟨kb,kk,none⟩=some (.slice (some ⟨ta,0,none⟩) (n+1) ca)∧w'.cell? ⟨ta,t,none⟩=some (.slice (some ⟨gc,0,none⟩) L.length lc)∧w'.rangeAt gc (jj * 21) (wyC r)) wr.drew:=⟨s0,s1,s2,s3⟩
       refine wp_region_T (fun w':World=>w'.cell? ⟨nb,t,none⟩=some lv∧w'.cell? ⟨kb,kk,none⟩=some (.slice (some ⟨ta,0,none⟩) (n+1) ca)∧w'.cell? ⟨ta,t,none⟩=some (.slice (some ⟨gc,0,none⟩) L.length lc)∧w'.rangeAt gc (jj * 21) (wyC r)) 18 (by kernel_rfl) ?_
       refine tk1 0 (v:=?_) rfl (by kernel_rfl) (fun _ _ _ h=>h) ⟨rfl,fun w hSw=>?_⟩ hS ?_;rotate_left;· ((try dsimp only at hSw);go_simp;(try with_reducible rfl))
       (try simp only [List.getElem_toArray,List.getElem_cons_succ,List.getElem_cons_zero,Act.put,List.setIfInBounds_toArray,List.set_cons_zero,List.set_cons_succ])
       refine tk1 1 (v:=?_) rfl (by kernel_rfl) (fun _ _ _ h=>h) ⟨rfl,fun w hSw=>?_⟩ hS ?_;rotate_left;· ((try dsimp only at hSw);go_simp;(try with_reducible rfl))
       (try simp only [List.getElem_toArray,List.getElem_cons_succ,List.getElem_cons_zero,Act.put,List.setIfInBounds_toArray,List.set_cons_zero,List.set_cons_succ])
       refine tk1 2 (v:=?_) rfl (by kernel_rfl) (fun _ _ _ h=>h) ⟨rfl,fun w hSw=>?_⟩ hS ?_;rotate_left;· ((try dsimp only at hSw);go_simp;(try with_reducible rfl))
       (try simp only [List.getElem_toArray,List.getElem_cons_succ,List.getElem_cons_zero,Act.put,List.setIfInBounds_toArray,List.set_cons_zero,List.set_cons_succ])
       refine tk1 3 (v:=?_) rfl (by kernel_rfl) (fun _ _ _ h=>h) ⟨rfl,fun w hSw=>?_⟩ hS ?_;rotate_left;· ((try dsimp only at hSw);go_simp;(try with_reducible rfl))
       (try simp only [List.getElem_toArray,List.getElem_cons_succ,List.getElem_cons_zero,Act.put,List.setIfInBounds_toArray,List.set_cons_zero,List.set_cons_succ])
       refine tk1 4 (v:=?_) rfl (by kernel_rfl) (fun _ _ _ h=>h) ⟨rfl,fun w hSw=>?_⟩ hS ?_;rotate_left;· ((try dsimp only at hSw);go_simp;(try with_reducible rfl))
       (try simp only [List.getElem_toArray,List.getElem_cons_succ,List.getElem_cons_zero,Act.put,List.setIfInBounds_toArray,List.set_cons_zero,List.set_cons_succ])
       refine tk1 5 (v:=?_) rfl (by kernel_rfl) (fun _ _ _ h=>h) ⟨rfl,fun w hSw=>?_⟩ hS ?_;rotate_left;· ((try dsimp only at hSw);go_simp;(try with_reducible rfl))
       (try simp only [List.getElem_toArray,List.getElem_cons_succ,List.getElem_cons_zero,Act.put,List.setIfInBounds_toArray,List.set_cons_zero,List.set_cons_succ])
       refine tk1 6 (v:=?_) rfl (by kernel_rfl) (fun _ _ _ h=>h) ⟨rfl,fun w hSw=>?_⟩ hS ?_;rotate_left;· ((try dsimp only at hSw);go_simp;(try with_reducible rfl))
       (try simp only [List.getElem_toArray,List.getElem_cons_succ,List.getElem_cons_zero,Act.put,List.setIfInBounds_toArray,List.set_cons_zero,List.set_cons_succ])
       refine tk1 7 (v:=?_) rfl (by kernel_rfl) (fun _ _ _ h=>h) ⟨rfl,fun w hSw=>?_⟩ hS ?_;rotate_left;· ((try dsimp only at hSw);go_simp;(try with_reducible rfl))
       (try simp only [List.getElem_toArray,List.getElem_cons_succ,List.getElem_cons_zero,Act.put,List.setIfInBounds_toArray,List.set_cons_zero,List.set_cons_succ])
       refine tk1 8 (v:=?_) rfl (by kernel_rfl) (fun _ _ _ h=>h) ⟨rfl,fun w hSw=>?_⟩ hS ?_;rotate_left;· ((try dsimp only at hSw);go_simp;(try with_reducible rfl))
       (try simp only [List.getElem_toArray,List.getElem_cons_succ,List.getElem_cons_zero,Act.put,List.setIfInBounds_toArray,List.set_cons_zero,List.set_cons_succ])
       refine tk1 9 (v:=?_) rfl (by kernel_rfl) (fun _ _ _ h=>h) ⟨rfl,fun w hSw=>?_⟩ hS ?_;rotate_left;· ((try dsimp only at hSw);go_simp;(try with_reducible rfl))
       (try simp only [List.getElem_toArray,List.getElem_cons_succ,List.getElem_cons_zero,Act.put,List.setIfInBounds_toArray,List.set_cons_zero,List.set_cons_succ])
       refine tk1 10 (v:=?_) rfl (by kernel_rfl) (fun _ _ _ h=>h) ⟨rfl,fun w hSw=>?_⟩ hS ?_;rotate_left;· ((try dsimp only at hSw);go_simp;(try with_reducible rfl))
       (try simp only [List.getElem_toArray,List.getElem_cons_succ,List.getElem_cons_zero,Act.put,List.setIfInBounds_toArray,List.set_cons_zero,List.set_cons_succ])
       refine tk1 11 (v:=?_) rfl (by kernel_rfl) (fun _ _ _ h=>h) ⟨rfl,fun w hSw=>?_⟩ hS ?_;rotate_left;· ((try dsimp only at hSw);go_simp;(try with_reducible rfl))
       (try simp only [List.getElem_toArray,List.getElem_cons_succ,List.getElem_cons_zero,Act.put,List.setIfInBounds_toArray,List.set_cons_zero,List.set_cons_succ])
       refine tk1 12 (v:=?_) rfl (by kernel_rfl) (fun _ _ _ h=>h) ⟨rfl,fun w hSw=>?_⟩ hS ?_;rotate_left;· ((try dsimp only at hSw);go_simp;(try with_reducible rfl))
       (try simp only [List.getElem_toArray,List.getElem_cons_succ,List.getElem_cons_zero,Act.put,List.setIfInBounds_toArray,List.set_cons_zero,List.set_cons_succ])
       refine tk1 13 (v:=?_) rfl (by kernel_rfl) (fun _ _ _ h=>h) ⟨rfl,fun w hSw=>?_⟩ hS ?_;rotate_left;· ((try dsimp only at hSw);go_simp;(try with_reducible rfl))
       (try simp only [List.getElem_toArray,List.getElem_cons_succ,List.getElem_cons_zero,Act.put,List.setIfInBounds_toArray,List.set_cons_zero,List.set_cons_succ])
       refine tk1 14 (v:=?_) rfl (by kernel_rfl) (fun _ _ _ h=>h) ⟨rfl,fun w hSw=>?_⟩ hS ?_;rotate_left;· ((try dsimp only at hSw);go_simp;(try with_reducible rfl))
       (try simp only [List.getElem_toArray,List.getElem_cons_succ,List.getElem_cons_zero,Act.put,List.setIfInBounds_toArray,List.set_cons_zero,List.set_cons_succ])
       refine' wpAnyT_take (i:=15) (v:=_) rfl (by kernel_rfl) (by kernel_rfl) (by kernel_rfl) (by kernel_rfl) (fun _ _ _ h=>h) (yieldsIf_load_mid (by rfl) _ _ rfl _ _ rfl (wyC r) _ ?hS15 ?hu15 ?hd15 ?hi15) hS ?r15
       case hS15=>(intro w hw;exact hw.2.2.2)
       case hu15=>exact Tryz.underlying197
       case hd15=>rfl
       case hi15=>exact (by rw [wyC_len];exact Tryz.szWayR)
       simp only [List.getElem_toArray,List.getElem_cons_succ,List.getElem_cons_zero,Act.put,List.setIfInBounds_toArray,List.set_cons_zero,List.set_cons_succ]
       refine wpAnyT_one (i:=16) (by kernel_rfl) rfl (fun K hK=>?_)
       go_simp
       have cd:=HC.out.1.keep (Kp.drew [] wr)
       refine (put_any (p:=r) cd.ow (Nat.le_trans HC.out.1.kp.size (Kp.drew [] wr).size) HC.out.2).mono ?_
       rintro e w6 ⟨lv',rfl,o6,k6,_⟩
       obtain ⟨fa,fc,hf⟩:=o6.form
       subst hf
       have hlo:∀ x∈lv.ownBlock.toList,wt.heap.size≤x:=fun x hx=>(HC.out.1.ow.lt x (by simpa using hx)).1
       have hS6:(fun w':World=>w'.cell? ⟨nb,t,none⟩=some lv∧w'.cell? ⟨kb,kk,none⟩=some (.slice (some ⟨ta,0,none⟩) (n+1) ca)∧w'.cell? ⟨ta,t,none⟩=some (.slice (some ⟨gc,0,none⟩) L.length lc)∧w'.rangeAt gc (jj * 21) (wyC r)) w6:=by
        have z1:=HC.out.1.hi
        obtain ⟨z2,z3,z4⟩:=HZ.out
        exact ⟨(k6.cell (World.block_lt_of_cell? _ _ hS.1) (fun hx=>by have:=hlo nb hx;omega)).trans hS.1,(k6.cell (World.block_lt_of_cell? _ _ hS.2.1) (fun hx=>by have:=hlo kb hx;omega)).trans hS.2.1,(k6.cell (World.block_lt_of_cell? _ _ hS.2.2.1) (fun hx=>by have:=hlo ta hx;omega)).trans hS.2.2.1,rangeAt_keep hS.2.2.2 k6 (fun hx=>by have:=hlo gc hx;omega)⟩
       have cs:=cd.step o6 k6
       have f6:w6.frozen? ⟨nb,t,none⟩=false:=(k6.frozen (p:=⟨nb,t,none⟩) (World.block_lt_of_cell? _ _ hS.1) (fun hx=>by have:=hlo nb hx;have:=HC.out.1.hi;omega)).trans (cd.free t)
       have HS:=hid cs
       refine hK.out _ _ (.inr hS6) ?_
       clear hK K cs cd o6 k6 hlo hS s0 s1 s2 s3
       refine wpAnyT_one (i:=17) (by kernel_rfl) rfl (fun K hK=>?_)
       go_simp
       refine hK.out _ _ (.inr hS6) ?_
       clear hK K
       have d6:=hS6.1
       clear hS6
       refine wpAnyT_one (i:=18) (by kernel_rfl) rfl (fun K hK=>?_)
       go_simp
       refine hK.out _ _ (.inl rfl) ?_
       clear hK K
       refine wpAnyT_done (by kernel_rfl) ?_ _
       go_wp2_with fail
       go_roundw
       ·refine ⟨jj+1,.slice fa (putT (ddT (brL Vs t kk++L.take jj)) r).length fc,by omega,by go_num,?_⟩
        rw [take_snoc hgj,←List.append_assoc,←dd_snoc]
        exact HS.out
       ·simp [intOf];omega
      ·have q6:¬ (jj:Int) < (L.length:Int):=by omega
       have HC:=hid hcu
       clear hcu kwx
       go_wp2_with fail
       go_roundw
       ·refine ⟨kk+1,lv,by omega,by go_num,?_⟩
        have ej:L.take jj=L:=List.take_of_length_le (by omega)
        have eB:brL Vs t (kk+1)=brL Vs t kk++L:=by
         unfold brL
         rw [take_snoc HO.out.2.2.2.2.2,List.flatMap_append]
         simp [←HO.out.2.2.2.2.1]
        have h7:=HC.out
        rw [ej] at h7
        rw [eB]
        exact h7
       ·simp [intOf];omega
    ·have q4:¬ (kk:Int) < (Vs.length:Int):=by omega
     have HC:=hid hcu
     clear hcu
     go_wp2_with fail
     go_roundw
     ·have hcu:=HC.out
      have ek:Vs.take kk=Vs:=List.take_of_length_le (by omega)
      have eB:ddT (brL Vs t kk)=ddR (vAny Vs) t:=by
       unfold brL
       rw [ek]
       exact dd_any Vs t
      rw [eB] at hcu
      refine ⟨t+1,by omega,by go_num,hcu.fin.congr (fun x _=>upto_step x),((HT.out.2.mono (by simp)).trans hcu.kp).news (fun y hy=>by rw [List.mem_singleton.1 hy];exact hcu.lo),hid (fun a h1 h2=>hcu.nl a (by omega) h2)⟩
     ·simp [intOf];omega
  ·have q1:¬ (t:Int)≤(n:Int):=by omega
   have HR:=hid (And.intro tr kr)
   clear tr kr hwt hnl
   go_wp2_with fail
   go_ret
   exact ⟨_,rfl,RpS.of HB.out.2.2.1 (HR.out.1.congr fun x hx=>by unfold upto;rw [if_pos (by omega)]) HR.out.2⟩
end
