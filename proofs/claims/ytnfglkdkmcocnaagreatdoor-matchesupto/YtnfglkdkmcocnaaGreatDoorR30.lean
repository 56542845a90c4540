import Derived.Test.YtnfglkdkmcocnaaGreatDoorR29
set_option maxRecDepth 100000
set_option maxHeartbeats 16000000
set_option linter.all false
namespace Go.Proofs.YtnfglkdkmcocnaaGreatDoor
open Go.RowKit
section
variable {w w' w1:World} {m n:Nat}
def RpS (w1:World) (n:Nat) (U:Rt) (ov:Value) (wx:World):Prop:=∃ tb c,ov=.slice (some ⟨tb,0,none⟩) (n+1) c∧Tu wx w1.heap.size wx.heap.size tb c n (ddR U)∧Kp [] w1 wx
def mzI (b:Option Nat):Int:=match b with
 | none=>-1
 | some x=>(x:Int)
def ovU (text:ByteArray) (V:Rt) (b:Option Nat):Rt:=match b with
 | none=>vStar text V
 | some _=>vId
def ovW (text:ByteArray) (V:Rt) (a:Nat) (b:Option Nat):Rt:=match b with
 | none=>vStar text V
 | some x=>vUp V (x - a)
theorem vRep_eq (text:ByteArray) (V:Rt) (a:Nat) (b:Option Nat):vRep text V a b=vTimes V a (ovW text V a b):=by
 cases b <;> rfl
def bhS (text:ByteArray) (V:Rt) (t:Nat) (l:List (Nat×Zt)):List (Nat×Zt):=(l.filter fun p=>decide (p.1≠t)).flatMap fun p=>(ddT (vStar text V p.1)).map fun q=>(q.1,mix p.2 q.2)
theorem bhS_same {text:ByteArray} {V:Rt} {t i:Nat} {l:List (Nat×Zt)} {p:Nat×Zt} (h:l[i]? = some p) (hp:p.1=t):bhS text V t (l.take (i+1))=bhS text V t (l.take i):=by
 unfold bhS
 rw [take_snoc h,List.filter_append]
 simp [hp]
theorem bhS_more {text:ByteArray} {V:Rt} {t i:Nat} {l:List (Nat×Zt)} {p:Nat×Zt} (h:l[i]? = some p) (hp:¬ p.1=t):bhS text V t (l.take (i+1))=bhS text V t (l.take i)++(ddR (vStar text V) p.1).map fun r=>(r.1,mix p.2 r.2):=by
 unfold bhS
 rw [take_snoc h,List.filter_append,List.flatMap_append]
 simp [hp]
theorem repeated_any {nd:Nv} {kv tv:Value} {V:Rt} {a:Nat} {b:Option Nat} {text:ByteArray} (hT:Tw w m tv n (ddR V)) (hm:m≤w.heap.size) (mV:Mng n V) (hn:n≤900) (ht:text.size=n)
  (ha:nd.least=(a:Int)) (ha2:a≤20) (hb:nd.most=mzI b) (hb2:∀ x,b=some x→a≤x∧x≤20) :
  Calls Tryz.prog 122 #[.agg (ndC nd kv).toArray,tv,.int .i64 (n:Nat)] w fun e w'=>∃ ov,e=.returned ov∧RpS w n (vRep text V a b) ov w':=by
 obtain ⟨cn,hcn⟩:∃ cn,cn=ndC nd kv:=⟨_,rfl⟩
 rw [←hcn]
 obtain ⟨w1,hw1⟩:∃ w1,w1=w.alloc (.cells cn.toArray 192):=⟨_,rfl⟩
 obtain ⟨xb,hxb⟩:∃ xb,xb=w.heap.size:=⟨_,rfl⟩
 have k1:Kp [] w w1:=by rw [hw1];exact Kp.alloc _ _ _
 have X1:Bl w1 xb cn:=by rw [hw1,hxb];exact Bl.alloc _ _ _
 have e3:cn[258]? = some (.int .i64 (a:Int)):=by rw [hcn,(ndC_at nd kv).2.2.2.1,ha]
 have e4:cn[259]? = some (.int .i64 (mzI b)):=by rw [hcn,(ndC_at nd kv).2.2.2.2.1,hb]
 have T1:Tw w1 w1.heap.size tv n (ddR V):=hT.keep k1 hm (by simp) (Nat.le_trans hm k1.size)
 have HX:=hid (And.intro X1 (And.intro e3 (And.intro e4 (And.intro k1 T1))))
 have hC:∀ wx,Kp [] w1 wx→wx.cell? ⟨xb,258,none⟩=some (.int .i64 (a:Int))∧wx.cell? ⟨xb,259,none⟩=some (.int .i64 (mzI b)):=fun wx kx=>by
  have X:=HX.out.1.keep kx (by simp)
  exact ⟨X.at_ 258 _ HX.out.2.1,X.at_ 259 _ HX.out.2.2.1⟩
 have HC:=hid hC
 have hmk:=fun w=>make_table1 w n hn
 have hn1:IntKind.i64.wrap ((n:Int)+1)=((n+1:Nat):Int):=wrap_i64_succ n (n+1) rfl (by omega)
 have HB2:=hid hb2
 have HW:Hid (Mng n (ovW text V a b)):=hid (by
  cases b with
  | none=>exact mV.star ht
  | some x=>exact mV.up _)
 clear hcn X1 e3 e4 k1 T1 hC hT ha hb hb2 hm
 go_enter Tryz.func122,Tryz.ntmps122
 go_upto_region 1 with fail
 rw [←hw1,←hxb]
 clear hw1 hxb
 go_wp2_with fail
 refine (stay_any hn).mono ?_
 rintro e w2 ⟨tb0,c0,rfl,t0,k2⟩
 have R0:RpS w1 n vId (.slice (some ⟨tb0,0,none⟩) (n+1) c0) w2:=⟨tb0,c0,rfl,t0.congr fun i _=>(dd_id i).symm,k2⟩
 have H0:=hid (And.intro R0 k2)
 have c4:=(HC.out w2 k2).2
 clear t0 R0 k2
 go_upto_if 23 with fail
 go_cut [7] from 8 (fun ov wx=>RpS w1 n (ovU text V b) ov wx)
 case first=>
  cases b with
  | some x=>
   have c4:w2.cell? ⟨xb,259,none⟩=some (.int .i64 (x:Int)):=c4
   have q1:¬ (x:Int) < 0:=by omega
   go_wp2_with fail
   go_meet
   case rel=>exact H0.out.1
  | none=>
   have c4:w2.cell? ⟨xb,259,none⟩=some (.int .i64 (-1)):=c4
   obtain ⟨R0,k2⟩:=H0.out
   obtain ⟨tbx,cx,ex,tx,_⟩:=R0
   obtain ⟨rfl,rfl⟩:tb0=tbx∧c0=cx:=by
    injection ex with e1 _ e3;injection e1 with e1;injection e1 with e1 _ _;exact ⟨e1,e3⟩
   have HT0:=hid (And.intro tx k2)
   clear H0 ex tx k2
   rw [show decide (mzI none < 0)=true from rfl]
   go_wp2_with fail
   go_loopw [8] (fun iv wr=>∃ j:Nat,j≤n+1∧(iv=.int .i64 ((j:Int) - 1))∧Tu wr w1.heap.size wr.heap.size tb0 c0 n (upto j (fun x=>[(x,neg)]) (ddR (vStar text V)))∧Kp [] w1 wr) (fun iv _=>((intOf iv)+1).toNat)
   case atStart=>exact ⟨n+1,Nat.le_refl _,by simp,HT0.out.1.congr (fun x hx=>by unfold upto;rw [if_pos (by omega)];exact dd_id x),HT0.out.2⟩
   case round=>
    obtain ⟨j,hj,rfl,tr,kr⟩:=hrel
    by_cases h0:j=0
    ·subst h0
     have HR:=hid (And.intro tr kr)
     clear tr kr
     go_wp2_with fail
     go_meet
     case rel=>exact ⟨tb0,c0,rfl,HR.out.1.congr (fun x _=>by unfold upto;rw [if_neg (by omega)];rfl),HR.out.2⟩
    ·obtain ⟨t,rfl⟩:∃ t,j=t+1:=⟨j - 1,by omega⟩
     have et:(((t+1:Nat):Int) - 1)=(t:Int):=by omega
     rw [et]
     have htn:t≤n:=by omega
     obtain ⟨wt,hwt⟩:∃ wt,wt=wr:=⟨_,rfl⟩
     have q1:(0:Int)≤(t:Int):=by omega
     have q0:(t:Int) < ((n+1:Nat):Int):=by omega
     have q0b:(t:Int) < (n:Int)+1:=by omega
     have hd1:IntKind.i64.wrap ((t:Int) - 1)=(t:Int) - 1:=by rw [IntKind.wrap_i64];omega
     have t1:Tw wt wt.heap.size tv n (ddR V):=by rw [hwt];exact HX.out.2.2.2.2.keep kr (Nat.le_refl _) (by simp) kr.size
     obtain ⟨ta,ca,htv,hca,hta,hAc⟩:=t1
     obtain ⟨la,hla,hLa⟩:=hAc t htn
     obtain ⟨LA,hLA⟩:∃ L,ddR V t=L:=⟨_,rfl⟩
     have hlA:LA.length≤1000:=by rw [←hLA];have:=mV.len htn;omega
     rw [hLA] at hLa
     obtain ⟨aa,ac,hform⟩:∃ aa ac,la=.slice aa LA.length ac:=by
      rcases hLa with ⟨z1,z2⟩ | ⟨gb,c,z1,_⟩
      ·exact ⟨none,0,by rw [z1,z2];rfl⟩
      ·exact ⟨_,c,z1⟩
     subst hform
     rw [←hwt] at tr kr
     have HO:=hid (And.intro tr (And.intro kr (And.intro hLA (And.intro hLa hla))))
     have HV:=hid htv
     subst htv
     clear tr kr hAc hLa hla hLA
     rw [←hwt]
     clear hwt
     go_wp2_with fail
     go_loopw [9,10] (fun lvv iv wr=>∃ i:Nat,i≤LA.length∧iv=.int .i64 i∧Lu wt wr lvv (ddT (bhS text V t (LA.take i)))) (fun _ iv _=>2000 - (intOf iv).toNat)
     case atStart=>exact ⟨0,Nat.zero_le _,rfl,Lu.nil wt⟩
     case round=>
      obtain ⟨i,hil,rfl,hu⟩:=hrel
      have d0:=(hu.kp.cell (p:=⟨ta,t,none⟩) (by show ta < _;omega) (by simp)).trans HO.out.2.2.2.2
      by_cases hlt:i < LA.length
      ·have hgi:LA[i]? = some LA[i]:=List.getElem?_eq_getElem hlt
       obtain ⟨p,hp⟩:∃ p,LA[i]=p:=⟨_,rfl⟩
       rw [hp] at hgi
       obtain ⟨gb,c2,e1,e2,_,e4⟩:=(HO.out.2.2.2.1.keep (m':=wt.heap.size) hu.kp (Nat.le_refl _) (by simp) (Nat.le_refl _)).way hgi
       obtain ⟨rfl,_,rfl⟩:aa=some ⟨gb,0,none⟩∧True∧ac=c2:=by
        injection e1 with e1 _ e3;exact ⟨e1,trivial,e3⟩
       have q3:(i:Int) < (LA.length:Int):=by omega
       have q4:(0:Int)≤(i:Int):=by omega
       have hc1:IntKind.i64.wrap ((i:Int)+1)=((i+1:Nat):Int):=wrap_i64_succ i (i+1) rfl (by omega)
       have RG:=hid e4
       have HG:=hid (And.intro hgi hu)
       clear e1 e2 e4 hp
       go_upto_region 11 with (first | (refine wpList_load_mid rfl 197 (.tmp 43) rfl gb (i * 21) rfl (wyC p) _ RG.out Tryz.underlying197 rfl (by rw [wyC_len];exact Tryz.szWayR) ?_) | (refine newVarR (w1:=wr) rfl 197 (.tmp 11) (.tmp 44) rfl _ _ _ rfl rfl (by rw [wyC_len];rfl) (by rw [wyC_len];exact Tryz.szWayR) (wyC_one p) ?_;intro w2' b2 k2))
       have b2:Wb w2' wr.heap.size p:=b2
       obtain ⟨vb,hvb⟩:∃ vb,vb=wr.heap.size:=⟨_,rfl⟩
       rw [←hvb] at b2 ⊢
       obtain ⟨hgi,hu⟩:=HG.out
       have hpm:p∈ddR V t:=by rw [HO.out.2.2.1];exact List.mem_of_getElem? hgi
       obtain ⟨hp0,hp1⟩:=mV.dd htn hpm
       have s0:=b2.at_ 0 _ (wyC_at p).1
       have hu2:=hu.keep k2 (by simp) (by simp)
       by_cases hpt:p.1=t
       ·have qe:((p.1:Int) == (t:Int))=true:=by simp [hpt]
        have HK:=hid hu2
        clear hu2 hu b2 k2 hvb d0 HG
        go_wp2_with fail
        go_roundw
        ·refine ⟨i+1,by omega,by go_num,?_⟩
         rw [bhS_same hgi hpt]
         exact HK.out
        ·simp [intOf];omega
       ·have qe:((p.1:Int) == (t:Int))=false:=by rw [beq_eq_false_iff_ne];omega
        obtain ⟨lb,hlb,hLb,_⟩:=HO.out.1.lw p.1 hp1
        have eU:upto (t+1) (fun x=>[(x,neg)]) (ddR (vStar text V)) p.1=ddR (vStar text V) p.1:=by unfold upto;rw [if_neg (by omega)]
        rw [eU] at hLb
        obtain ⟨LB,hLB⟩:∃ L,ddR (vStar text V) p.1=L:=⟨_,rfl⟩
        have hlB:LB.length≤1000:=by rw [←hLB];have:=(mV.star ht).len hp1;omega
        rw [hLB] at hLb
        obtain ⟨ba,bc,hform⟩:∃ ba bc,lb=.slice ba LB.length bc:=by
         rcases hLb with ⟨z1,z2⟩ | ⟨gb,c,z1,_⟩
         ·exact ⟨none,0,by rw [z1,z2];rfl⟩
         ·exact ⟨_,c,z1⟩
        subst hform
        have hvl:∀ g,u9.ownBlock=some g→g≠vb:=fun g hg=>by have:=(hu.ow.lt g hg).2;omega
        have HB:=hid (And.intro hlb (And.intro hLb (And.intro hLB (And.intro hu2 (And.intro b2 hvl)))))
        have HQ:Hid (∀ k,∀ y∈bhS text V t (LA.take i)++(LB.take k).map fun r=>(r.1,mix p.2 r.2),y.1≤n):=hid (by
         intro k y hy
         rcases List.mem_append.1 hy with hy | hy
         ·obtain ⟨x,hx,hy⟩:=List.mem_flatMap.1 hy
          obtain ⟨r,hr,rfl⟩:=List.mem_map.1 hy
          have hx1:x∈ddR V t:=by rw [HO.out.2.2.1];exact List.mem_of_mem_take (List.mem_filter.1 hx).1
          exact ((mV.star ht).dd (mV.dd htn hx1).2 hr).2
         ·obtain ⟨r,hr,rfl⟩:=List.mem_map.1 hy
          exact ((mV.star ht).dd (p:=r) hp1 (by rw [hLB];exact List.mem_of_mem_take hr)).2)
        have q5:(p.1:Int) < ((n+1:Nat):Int):=by omega
        have q5b:(p.1:Int) < (n:Int)+1:=by omega
        have q6:(0:Int)≤(p.1:Int):=by omega
        clear hlb hLb hLB hu2 b2 k2 hvb hu d0 hvl HG hpm
        go_wp2_with fail
        go_loopw [9,12] (fun lv2 kx wr2=>∃ k:Nat,k≤LB.length∧kx=.int .i64 k∧Lu wt wr2 lv2 (ddT (bhS text V t (LA.take i)++(LB.take k).map fun r=>(r.1,mix p.2 r.2)))∧Wb wr2 vb p∧(∀ g,lv2.ownBlock=some g→g≠vb)) (fun _ kx _=>2000 - (intOf kx).toNat)
        case atStart=>exact ⟨0,Nat.zero_le _,rfl,by simpa using HB.out.2.2.2.1,HB.out.2.2.2.2.1,HB.out.2.2.2.2.2⟩
        case round=>
         obtain ⟨k,hkl,rfl,hu2,b3,hvl⟩:=hrel
         have s3:=(hu2.kp.cell (p:=⟨tb0,p.1,none⟩) (by show tb0 < _;have:=HO.out.1.hi;omega) (by simp)).trans HB.out.1
         have s2:=b3.at_ 0 _ (wyC_at p).1
         by_cases hkt:k < LB.length
         ·have hgk:LB[k]? = some LB[k]:=List.getElem?_eq_getElem hkt
          obtain ⟨r,hr⟩:∃ r,LB[k]=r:=⟨_,rfl⟩
          rw [hr] at hgk
          obtain ⟨gc,c3,z1,z2,_,s4⟩:=(HB.out.2.1.keep (m':=wt.heap.size) hu2.kp (Nat.le_refl _) (by simp) (Nat.le_refl _)).way hgk
          obtain ⟨rfl,_,rfl⟩:ba=some ⟨gc,0,none⟩∧True∧bc=c3:=by
           injection z1 with z1 _ z3;exact ⟨z1,trivial,z3⟩
          have q7:(k:Int) < (LB.length:Int):=by omega
          have q8:(0:Int)≤(k:Int):=by omega
          have hk1:IntKind.i64.wrap ((k:Int)+1)=((k+1:Nat):Int):=wrap_i64_succ k (k+1) rfl (by omega)
          have s1:=b3.range
          have HCC:Hid (gc < wt.heap.size):=hid (HB.out.2.1.lt rfl)
          have HK:=hid (And.intro hgk (And.intro hu2 (And.intro b3 hvl)))
          clear hgk hu2 b3 hvl z1 z2 hr s0
          go_upto_region 15 with fail
          have hS:(fun w':World=>w'.rangeAt vb 0 (wyC p)∧w'.cell? ⟨vb,0,none⟩=some (.int .i64 (p.1:Nat))∧w'.cell? ⟨tb0,p.1,none⟩=some (.slice (some ⟨gc,0,none⟩) LB.length bc)∧w'.rangeAt gc (k * 21) (wyC r)) wr.drew:=⟨s1,s2,s3,s4⟩
          refine wp_region_T (fun w':World=>w'.rangeAt vb 0 (wyC p)∧w'.cell? ⟨vb,0,none⟩=some (.int .i64 (p.1:Nat))∧w'.cell? ⟨tb0,p.1,none⟩=some (.slice (some ⟨gc,0,none⟩) LB.length bc)∧w'.rangeAt gc (k * 21) (wyC r)) 12 (by kernel_rfl) ?_
          refine tk1 0 (v:=?_) rfl (by kernel_rfl) (fun _ _ _ h=>h) ⟨rfl,fun w hSw=>?_⟩ hS ?_;rotate_left;· ((try dsimp only at hSw);go_simp;(try with_reducible rfl))
          (try simp only [List.getElem_toArray,List.getElem_cons_succ,List.getElem_cons_zero,Act.put,List.setIfInBounds_toArray,List.set_cons_zero,List.set_cons_succ])
          refine' wpAnyT_take (i:=1) (v:=_) rfl (by kernel_rfl) (by kernel_rfl) (by kernel_rfl) (by kernel_rfl) (fun _ _ _ h=>h) (yieldsIf_load_mid (by rfl) _ _ rfl _ _ rfl (wyC p) _ ?hS1 ?hu1 ?hd1 ?hi1) hS ?r1
          case hS1=>(intro w hw;exact hw.1)
          case hu1=>exact Tryz.underlying197
          case hd1=>rfl
          case hi1=>exact (by rw [wyC_len];exact Tryz.szWayR)
          simp only [List.getElem_toArray,List.getElem_cons_succ,List.getElem_cons_zero,Act.put,List.setIfInBounds_toArray,List.set_cons_zero,List.set_cons_succ]
          refine tk1 2 (v:=?_) rfl (by kernel_rfl) (fun _ _ _ h=>h) ⟨rfl,fun w hSw=>?_⟩ hS ?_;rotate_left;· ((try dsimp only at hSw);go_simp;(try with_reducible rfl))
          (try simp only [List.getElem_toArray,List.getElem_cons_succ,List.getElem_cons_zero,Act.put,List.setIfInBounds_toArray,List.set_cons_zero,List.set_cons_succ])
          refine tk1 3 (v:=?_) rfl (by kernel_rfl) (fun _ _ _ h=>h) ⟨rfl,fun w hSw=>?_⟩ hS ?_;rotate_left;· ((try dsimp only at hSw);go_simp;(try with_reducible rfl))
          (try simp only [List.getElem_toArray,List.getElem_cons_succ,List.getElem_cons_zero,Act.put,List.setIfInBounds_toArray,List.set_cons_zero,List.set_cons_succ])
          refine tk1 4 (v:=?_) rfl (by kernel_rfl) (fun _ _ _ h=>h) ⟨rfl,fun w hSw=>?_⟩ hS ?_;rotate_left;· ((try dsimp only at hSw);go_simp;(try with_reducible rfl))
          (try simp only [List.getElem_toArray,List.getElem_cons_succ,List.getElem_cons_zero,Act.put,List.setIfInBounds_toArray,List.set_cons_zero,List.set_cons_succ])
          refine tk1 5 (v:=?_) rfl (by kernel_rfl) (fun _ _ _ h=>h) ⟨rfl,fun w hSw=>?_⟩ hS ?_;rotate_left;· ((try dsimp only at hSw);go_simp;(try with_reducible rfl))
          (try simp only [List.getElem_toArray,List.getElem_cons_succ,List.getElem_cons_zero,Act.put,List.setIfInBounds_toArray,List.set_cons_zero,List.set_cons_succ])
          refine tk1 6 (v:=?_) rfl (by kernel_rfl) (fun _ _ _ h=>h) ⟨rfl,fun w hSw=>?_⟩ hS ?_;rotate_left;· ((try dsimp only at hSw);go_simp;(try with_reducible rfl))
          (try simp only [List.getElem_toArray,List.getElem_cons_succ,List.getElem_cons_zero,Act.put,List.setIfInBounds_toArray,List.set_cons_zero,List.set_cons_succ])
          refine tk1 7 (v:=?_) rfl (by kernel_rfl) (fun _ _ _ h=>h) ⟨rfl,fun w hSw=>?_⟩ hS ?_;rotate_left;· ((try dsimp only at hSw);go_simp;(try with_reducible rfl))
          (try simp only [List.getElem_toArray,List.getElem_cons_succ,List.getElem_cons_zero,Act.put,List.setIfInBounds_toArray,List.set_cons_zero,List.set_cons_succ])
          refine tk1 8 (v:=?_) rfl (by kernel_rfl) (fun _ _ _ h=>h) ⟨rfl,fun w hSw=>?_⟩ hS ?_;rotate_left;· ((try dsimp only at hSw);go_simp;(try with_reducible rfl))
          (try simp only [List.getElem_toArray,List.getElem_cons_succ,List.getElem_cons_zero,Act.put,List.setIfInBounds_toArray,List.set_cons_zero,List.set_cons_succ])
          refine' wpAnyT_take (i:=9) (v:=_) rfl (by kernel_rfl) (by kernel_rfl) (by kernel_rfl) (by kernel_rfl) (fun _ _ _ h=>h) (yieldsIf_load_mid (by rfl) _ _ rfl _ _ rfl (wyC r) _ ?hS9 ?hu9 ?hd9 ?hi9) hS ?r9
          case hS9=>(intro w hw;exact hw.2.2.2)
          case hu9=>exact Tryz.underlying197
          case hd9=>rfl
          case hi9=>exact (by rw [wyC_len];exact Tryz.szWayR)
          simp only [List.getElem_toArray,List.getElem_cons_succ,List.getElem_cons_zero,Act.put,List.setIfInBounds_toArray,List.set_cons_zero,List.set_cons_succ]
          refine wpAnyT_one (i:=10) (by kernel_rfl) rfl (fun K hK=>?_)
          go_simp
          refine (then_any (p:=p) (r:=r)).mono ?_
          rintro e w5 ⟨rfl,k5⟩
          obtain ⟨hgk,hu2,b3,hvl⟩:=HK.out
          have kd:Kp [] wr w5:=(Kp.drew [] wr).trans k5
          have hS5:(fun w':World=>w'.rangeAt vb 0 (wyC p)∧w'.cell? ⟨vb,0,none⟩=some (.int .i64 (p.1:Nat))∧w'.cell? ⟨tb0,p.1,none⟩=some (.slice (some ⟨gc,0,none⟩) LB.length bc)∧w'.rangeAt gc (k * 21) (wyC r)) w5:=⟨rangeAt_keep s1 kd (by simp),(kd.cell (World.block_lt_of_cell? _ _ s2) (by simp)).trans s2,(kd.cell (World.block_lt_of_cell? _ _ s3) (by simp)).trans s3,rangeAt_keep s4 kd (by simp)⟩
          have u5:=hu2.keep kd (by simp) (by simp)
          have hb5:=b3.keep kd (by simp)
          refine hK.out _ _ (.inr hS5) ?_
          clear hK K hS s1 s2 s3 s4
          refine wpAnyT_one (i:=11) (by kernel_rfl) rfl (fun K hK=>?_)
          go_simp
          have hlen:(ddT (bhS text V t (LA.take i)++(LB.take k).map fun r=>(r.1,mix p.2 r.2))).length≤1000:=Nat.le_trans (dd_len (n:=n) (HQ.out k)) (by omega)
          refine (put_any (p:=(r.1,mix p.2 r.2)) u5.ow u5.size hlen).mono ?_
          rintro e w6 ⟨lv',rfl,o6,k6,n6⟩
          have hn6:∀ x,u9.ownBlock=some x→wt.heap.size≤x∧x < w5.heap.size:=fun x hx=>u5.ow.lt x hx
          have hS6:(fun w':World=>w'.rangeAt vb 0 (wyC p)∧w'.cell? ⟨vb,0,none⟩=some (.int .i64 (p.1:Nat))∧w'.cell? ⟨tb0,p.1,none⟩=some (.slice (some ⟨gc,0,none⟩) LB.length bc)∧w'.rangeAt gc (k * 21) (wyC r)) w6:=by
           have n1:vb∉u9.ownBlock.toList:=fun hx=>hvl vb (by simpa using hx) rfl
           have n2:tb0∉u9.ownBlock.toList:=fun hx=>by have:=(hn6 tb0 (by simpa using hx)).1;have:=HO.out.1.hi;omega
           have n3:gc∉u9.ownBlock.toList:=fun hx=>by have:=(hn6 gc (by simpa using hx)).1;have:=HCC.out;omega
           exact ⟨rangeAt_keep hS5.1 k6 n1,(k6.cell (World.block_lt_of_cell? _ _ hS5.2.1) n1).trans hS5.2.1,(k6.cell (World.block_lt_of_cell? _ _ hS5.2.2.1) n2).trans hS5.2.2.1,rangeAt_keep hS5.2.2.2 k6 n3⟩
          refine hK.out _ _ (.inr hS6) ?_
          clear hK K
          have hb6:=hb5.keep k6 (fun hx=>hvl vb (by simpa using hx) rfl)
          have u6:=u5.put o6 k6
          have hv6:∀ g,lv'.ownBlock=some g→g≠vb:=fun g hg e=>by
           rcases n6 g hg with z | z
           ·exact hvl g z e
           ·have:=hb5.lt;omega
          have H6:=hid (And.intro u6 (And.intro hb6 hv6))
          clear o6 k6 n6 hS6 hS5 hb6 u6 hv6 u5 hb5 kd k5 hu2 b3 hvl hn6
          refine wpAnyT_one (i:=12) (by kernel_rfl) rfl (fun K hK=>?_)
          go_simp
          refine hK.out _ _ (.inl rfl) ?_
          clear hK K
          refine wpAnyT_done (by kernel_rfl) ?_ _
          go_wp2_with fail
          go_roundw
          ·obtain ⟨u6,hb6,hv6⟩:=H6.out
           refine ⟨k+1,by omega,by go_num,?_,hb6,hv6⟩
           rw [take_snoc hgk,List.map_append,←List.append_assoc]
           rw [dd_snoc] at u6
           exact u6
          ·simp [intOf];omega
         ·have q7:¬ (k:Int) < (LB.length:Int):=by omega
          have HK:=hid hu2
          clear hu2 b3
          go_wp2_with fail
          go_roundw
          ·refine ⟨i+1,by omega,by go_num,?_⟩
           have ek:LB.take k=LB:=List.take_of_length_le (by omega)
           rw [bhS_more hgi hpt]
           have hz:=HK.out
           rw [ek,←HB.out.2.2.1] at hz
           exact hz
          ·simp [intOf];omega
      ·have q3:¬ (i:Int) < (LA.length:Int):=by omega
       have hu3:Lu wt wr u9 (ddT (bhS text V t (ddR V t))):=by
        rw [HO.out.2.2.1]
        rw [List.take_of_length_le (by omega)] at hu
        exact hu
       have HK:=hid hu3
       clear hu hu3
       go_wp2_with fail
       refine (still_any (x:=t)).mono ?_
       rintro e w6 ⟨rfl,k6⟩
       have u6:=HK.out.keep k6 (by simp) (by simp)
       have hl6:(ddT (bhS text V t (ddR V t))).length≤1000:=Nat.le_trans (dd_len (n:=n) (fun y hy=>by
        obtain ⟨x,hx,hy⟩:=List.mem_flatMap.1 hy
        obtain ⟨r,hr,rfl⟩:=List.mem_map.1 hy
        exact ((mV.star ht).dd (mV.dd htn (List.mem_filter.1 hx).1).2 hr).2)) (by omega)
       clear k6
       go_wp2_with fail
       refine (put_any (p:=(t,neg)) u6.ow u6.size hl6).mono ?_
       rintro e w7 ⟨lv',rfl,o7,k7,_⟩
       have u7:Lu wt w7 lv' (ddR (vStar text V) t):=by
        have h7:=u6.put o7 k7
        rw [dd_snoc] at h7
        have e7:=dd_star (text:=text) (V:=V) (i:=t) (fun i p hi hp=>by rw [ht] at hi ⊢;exact mV i p hi hp) (by omega)
        unfold bhS at h7
        rw [e7] at h7
        exact h7
       clear u6 o7 k7 hl6
       obtain ⟨fa,fc,hf⟩:=u7.ow.form
       subst hf
       have t7:=HO.out.1.keep (m':=w7.heap.size) u7.kp (by simp) u7.size (Nat.le_refl _)
       obtain ⟨⟨l0,s1⟩,s2⟩:=t7.slot htn
       have ne:(Value.slice fa (ddR (vStar text V) t).length fc).ownBlock≠some tb0:=fun e=>by have:=(u7.ow.lt tb0 e).1;have:=HO.out.1.hi;omega
       have t8:=(t7.set htn u7.ow.lw ne (Nat.le_refl _) (Nat.le_refl _)).congr (U:=upto t (fun x=>[(x,neg)]) (ddR (vStar text V))) (fun x _=>by
        unfold updT upto
        by_cases e:x=t
        ·rw [if_pos e,if_neg (by omega),e]
        ·rw [if_neg e]
         by_cases h:x < t
         ·rw [if_pos (by omega),if_pos h]
         ·rw [if_neg (by omega),if_neg h])
       have H7:=hid (And.intro u7 t8)
       clear u7 t7 t8 ne
       go_wp2_with fail
       go_roundw
       ·obtain ⟨u7,t8⟩:=H7.out
        have hz:=fun v=>setCell_size w7 ⟨tb0,t,none⟩ v
        have lo:=HO.out.1.lo
        refine ⟨t,by omega,by go_num,by rw [hz];exact t8,((HO.out.2.1.mono (T:=[tb0]) (by simp)).trans ((u7.kp.mono (by simp)).trans (Kp.setCell (S:=[tb0]) _ _ (by simp)))).news (fun y hy=>?_)⟩
        rw [List.mem_singleton.1 hy];exact lo
       ·simp [intOf]
 case rest=>
  clear H0 c4
  have kc:Kp [] w1 wc:=by obtain ⟨_,_,_,_,k⟩:=hcut;exact k
  have c3:=(HC.out wc kc).1
  have H1:=hid hcut
  clear hcut kc
  go_upto_block 6 with fail
  clear c3
  go_cut [7] from 8 (fun ov wx=>RpS w1 n (ovW text V a b) ov wx)
  case first=>
   cases b with
   | none=>
    go_wp2_with fail
    go_loopw [7,13] (fun ov kx wr=>kx=.int .i64 (a:Int)∧RpS w1 n (vStar text V) ov wr) (fun _ _ _=>0)
    case atStart=>exact ⟨rfl,H1.out⟩
    case round=>
     obtain ⟨rfl,hr⟩:=hrel
     have kc:Kp [] w1 wr:=by obtain ⟨_,_,_,_,k⟩:=hr;exact k
     have c4:wr.cell? ⟨xb,259,none⟩=some (.int .i64 (-1)):=(HC.out wr kc).2
     have q1:¬ (a:Int) < -1:=by omega
     have HR:=hid hr
     clear hr kc
     go_wp2_with fail
     go_meet
     case rel=>exact HR.out
   | some x=>
    obtain ⟨hax,hx20⟩:=HB2.out x rfl
    go_wp2_with fail
    go_loopw [7,13] (fun ov kx wr=>∃ k:Nat,a≤k∧k≤x∧kx=.int .i64 (k:Int)∧RpS w1 n (vUp V (k - a)) ov wr) (fun _ kx _=>30 - (intOf kx).toNat)
    case atStart=>exact ⟨a,Nat.le_refl _,hax,rfl,by rw [Nat.sub_self];exact H1.out⟩
    case round=>
     obtain ⟨k,hk1,hk2,rfl,tb,cc,hov,hR,kR⟩:=hrel
     subst hov
     have c4:wr.cell? ⟨xb,259,none⟩=some (.int .i64 (x:Int)):=(HC.out wr kR).2
     have hkk:IntKind.i64.wrap ((k:Int)+1)=((k+1:Nat):Int):=wrap_i64_succ k (k+1) rfl (by omega)
     have HO:=hid (And.intro hR (And.intro kR (mV.up (k - a))))
     clear hR kR
     by_cases hkx:k < x
     ·have q0:(k:Int) < (x:Int):=by omega
      obtain ⟨wa,hwa⟩:∃ wa,wa=wr.alloc (.cells (nlC (n+1)) 194):=⟨_,rfl⟩
      obtain ⟨nb,hnb⟩:∃ nb,nb=wr.heap.size:=⟨_,rfl⟩
      have ka:Kp [] wr wa:=by rw [hwa];exact Kp.alloc _ _ _
      have sa:wa.heap.size=wr.heap.size+1:=by rw [hwa];simp
      have ta:Tu wa wr.heap.size wa.heap.size nb (n+1) n (upto 0 (ddR (vOr (vSeq V (vUp V (k - a))) vId)) fun _=>[]):=by
       have:=(Tu.make wr n).congr (U:=upto 0 (ddR (vOr (vSeq V (vUp V (k - a))) vId)) fun _=>[]) (fun x _=>by unfold upto;rw [if_neg (by omega)])
       rw [←hwa,←sa] at this
       rw [hnb]
       exact this
      have HA:=hid (And.intro ka (And.intro ta hnb))
      clear ka sa ta
      go_upto_region 21 with fail
      rw [←hwa,←hnb]
      clear hwa hnb
      go_wp2_with fail
      go_loopw [15] (fun iv wx=>∃ t:Nat,t≤n+1∧iv=.int .i64 t∧Tu wx wr.heap.size wx.heap.size nb (n+1) n (upto t (ddR (vOr (vSeq V (vUp V (k - a))) vId)) fun _=>[])∧Kp [] wr wx) (fun iv _=>2000 - (intOf iv).toNat)
      case atStart=>exact ⟨0,Nat.zero_le _,rfl,HA.out.2.1,HA.out.1⟩
      case round=>
       obtain ⟨t,hat',rfl,tr,kr⟩:=hrel
       by_cases hat:t≤n
       ·have q1:(t:Int)≤(n:Int):=by omega
        have q2:(t:Int) < ((n+1:Nat):Int):=by omega
        have q2b:(t:Int) < (n:Int)+1:=by omega
        have q3:(0:Int)≤(t:Int):=by omega
        have hc1:IntKind.i64.wrap ((t:Int)+1)=((t+1:Nat):Int):=wrap_i64_succ t (t+1) rfl (by omega)
        have kw1:=HO.out.2.1.trans kr
        have t1:Tw wr wr.heap.size tv n (ddR V):=HX.out.2.2.2.2.keep kw1 (Nat.le_refl _) (by simp) kw1.size
        have t2:=HO.out.1.tw.keep kr (Nat.le_refl _) (by simp) kr.size
        have HR:=hid (And.intro tr (And.intro kr (And.intro t1 t2)))
        clear tr kr kw1 t1 t2
        go_wp2_with fail
        refine (behind_v HR.out.2.2.1 HR.out.2.2.2 (Nat.le_refl _) hn hat mV HO.out.2.2).mono ?_
        rintro e w5 ⟨lv,rfl,u5⟩
        have mS:=mV.seq HO.out.2.2
        go_wp2_with fail
        refine (still_any (x:=t)).mono ?_
        rintro e w6 ⟨rfl,k6⟩
        have u6:=u5.keep k6 (by simp) (by simp)
        have hl6:=mS.len hat
        clear u5 k6
        go_wp2_with fail
        refine (put_any (p:=(t,neg)) u6.ow u6.size (by omega)).mono ?_
        rintro e w7 ⟨lv',rfl,o7,k7,_⟩
        have u7:Lu wr w7 lv' (ddR (vOr (vSeq V (vUp V (k - a))) vId) t):=by
         have:=u6.put o7 k7
         rw [dd_snoc] at this
         exact this
        clear u6 o7 k7 hl6
        obtain ⟨fa,fc,hf⟩:=u7.ow.form
        subst hf
        have t7:=HR.out.1.keep (m':=w7.heap.size) u7.kp (by simp) u7.size (Nat.le_refl _)
        obtain ⟨⟨l0,s1⟩,s2⟩:=t7.slot hat
        have H7:=hid (And.intro u7 (HR.out.1.next hat u7))
        clear u7 t7
        go_wp2_with fail
        go_roundw
        ·obtain ⟨u7,h7,k7⟩:=H7.out
         have hz:=fun v=>setCell_size w7 ⟨nb,t,none⟩ v
         refine ⟨t+1,by omega,by go_num,by rw [hz];exact h7,((HR.out.2.1.mono (by simp)).trans k7).news (fun y hy=>?_)⟩
         rw [List.mem_singleton.1 hy,HA.out.2.2];exact Nat.le_refl _
        ·simp [intOf];omega
       ·have q1:¬ (t:Int)≤(n:Int):=by omega
        have HR:=hid (And.intro tr kr)
        clear tr kr
        go_wp2_with fail
        go_roundw
        ·obtain ⟨tr,kr⟩:=HR.out
         have hfin:=tr.congr (U:=ddR (vOr (vSeq V (vUp V (k - a))) vId)) (fun x hx=>by unfold upto;rw [if_pos (by omega)])
         refine ⟨k+1,by omega,by omega,by go_num,nb,n+1,rfl,?_,HO.out.2.1.trans kr⟩
         rw [show k+1 - a=(k - a)+1 by omega]
         exact hfin.base HO.out.2.1.size
        ·simp [intOf];omega
     ·have q0:¬ (k:Int) < (x:Int):=by omega
      have ek:k=x:=by omega
      go_wp2_with fail
      go_meet
      case rel=>exact ⟨tb,cc,rfl,by rw [←ek];exact HO.out.1,HO.out.2.1⟩
  case rest=>
   clear H1
   have H2:=hid hcut
   clear hcut
   go_wp2_with fail
   go_loopw [7,16] (fun ov kx wr=>∃ k:Nat,k≤a∧kx=.int .i64 (k:Int)∧RpS w1 n (vTimes V k (ovW text V a b)) ov wr) (fun _ kx _=>30 - (intOf kx).toNat)
   case atStart=>exact ⟨0,Nat.zero_le _,rfl,H2.out⟩
   case round=>
    obtain ⟨k,hk2,rfl,tb,cc,hov,hR,kR⟩:=hrel
    subst hov
    have c4:=(HC.out wr kR).1
    have hkk:IntKind.i64.wrap ((k:Int)+1)=((k+1:Nat):Int):=wrap_i64_succ k (k+1) rfl (by omega)
    have HO:=hid (And.intro hR (And.intro kR (mV.times (HW.out) k)))
    clear hR kR
    by_cases hkx:k < a
    ·have q0:(k:Int) < (a:Int):=by omega
     obtain ⟨wa,hwa⟩:∃ wa,wa=wr.alloc (.cells (nlC (n+1)) 194):=⟨_,rfl⟩
     obtain ⟨nb,hnb⟩:∃ nb,nb=wr.heap.size:=⟨_,rfl⟩
     have ka:Kp [] wr wa:=by rw [hwa];exact Kp.alloc _ _ _
     have sa:wa.heap.size=wr.heap.size+1:=by rw [hwa];simp
     have ta:Tu wa wr.heap.size wa.heap.size nb (n+1) n (upto 0 (ddR (vSeq V (vTimes V k (ovW text V a b)))) fun _=>[]):=by
      have:=(Tu.make wr n).congr (U:=upto 0 (ddR (vSeq V (vTimes V k (ovW text V a b)))) fun _=>[]) (fun x _=>by unfold upto;rw [if_neg (by omega)])
      rw [←hwa,←sa] at this
      rw [hnb]
      exact this
     have HA:=hid (And.intro ka (And.intro ta hnb))
     clear ka sa ta
     go_upto_region 30 with fail
     rw [←hwa,←hnb]
     clear hwa hnb
     go_wp2_with fail
     go_loopw [18] (fun iv wx=>∃ t:Nat,t≤n+1∧iv=.int .i64 t∧Tu wx wr.heap.size wx.heap.size nb (n+1) n (upto t (ddR (vSeq V (vTimes V k (ovW text V a b)))) fun _=>[])∧Kp [] wr wx) (fun iv _=>2000 - (intOf iv).toNat)
     case atStart=>exact ⟨0,Nat.zero_le _,rfl,HA.out.2.1,HA.out.1⟩
     case round=>
      obtain ⟨t,hat',rfl,tr,kr⟩:=hrel
      by_cases hat:t≤n
      ·have q1:(t:Int)≤(n:Int):=by omega
       have q2:(t:Int) < ((n+1:Nat):Int):=by omega
       have q2b:(t:Int) < (n:Int)+1:=by omega
       have q3:(0:Int)≤(t:Int):=by omega
       have hc1:IntKind.i64.wrap ((t:Int)+1)=((t+1:Nat):Int):=wrap_i64_succ t (t+1) rfl (by omega)
       have kw1:=HO.out.2.1.trans kr
       have t1:Tw wr wr.heap.size tv n (ddR V):=HX.out.2.2.2.2.keep kw1 (Nat.le_refl _) (by simp) kw1.size
       have t2:=HO.out.1.tw.keep kr (Nat.le_refl _) (by simp) kr.size
       have HR:=hid (And.intro tr (And.intro kr (And.intro t1 t2)))
       clear tr kr kw1 t1 t2
       go_wp2_with fail
       refine (behind_v HR.out.2.2.1 HR.out.2.2.2 (Nat.le_refl _) hn hat mV HO.out.2.2).mono ?_
       rintro e w7 ⟨lv',rfl,u5⟩
       have mS:=mV.seq HO.out.2.2
       have u7:Lu wr w7 lv' (ddR (vSeq V (vTimes V k (ovW text V a b))) t):=u5
       clear u5
       obtain ⟨fa,fc,hf⟩:=u7.ow.form
       subst hf
       have t7:=HR.out.1.keep (m':=w7.heap.size) u7.kp (by simp) u7.size (Nat.le_refl _)
       obtain ⟨⟨l0,s1⟩,s2⟩:=t7.slot hat
       have H7:=hid (And.intro u7 (HR.out.1.next hat u7))
       clear u7 t7
       go_wp2_with fail
       go_roundw
       ·obtain ⟨u7,h7,k7⟩:=H7.out
        have hz:=fun v=>setCell_size w7 ⟨nb,t,none⟩ v
        refine ⟨t+1,by omega,by go_num,by rw [hz];exact h7,((HR.out.2.1.mono (by simp)).trans k7).news (fun y hy=>?_)⟩
        rw [List.mem_singleton.1 hy,HA.out.2.2];exact Nat.le_refl _
       ·simp [intOf];omega
      ·have q1:¬ (t:Int)≤(n:Int):=by omega
       have HR:=hid (And.intro tr kr)
       clear tr kr
       go_wp2_with fail
       go_roundw
       ·obtain ⟨tr,kr⟩:=HR.out
        have hfin:=tr.congr (U:=ddR (vSeq V (vTimes V k (ovW text V a b)))) (fun x hx=>by unfold upto;rw [if_pos (by omega)])
        exact ⟨k+1,by omega,by go_num,nb,n+1,rfl,hfin.base HO.out.2.1.size,HO.out.2.1.trans kr⟩
       ·simp [intOf];omega
    ·have q0:¬ (k:Int) < (a:Int):=by omega
     have ek:k=a:=by omega
     go_wp2_with fail
     go_ret
     obtain ⟨h1,h2,_⟩:=HO.out
     have kw:=HX.out.2.2.2.1
     refine ⟨_,rfl,tb,cc,rfl,?_,kw.trans h2⟩
     rw [vRep_eq,←ek]
     rw [←ek] at h1
     exact h1.base kw.size
end
