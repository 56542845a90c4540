import Derived.Test.YtnfglkdkmcocnaaGreatDoorR07
import Derived.RangeFuncNested
import Derived.RangeFuncBound
import Derived.Shelf.RegionOpen
import Derived.OwnWalkIn
import Derived.LoopNIn
import Derived.LoopIn
set_option maxRecDepth 100000
set_option maxHeartbeats 16000000
set_option linter.all false
namespace Go.Proofs.YtnfglkdkmcocnaaGreatDoor
open Go.RowKit Go.Shelf
variable {Z:List (Nat×Obj)}
attribute [local go_sem] Oper.semAt_some
theorem places_any (p:Nat) (text:ByteArray) (w:World) :
  Calls Tryz.prog 64 #[.pointer (some ⟨p,0,none⟩),.string text] w fun e w'=>e=.returned (.func (.func 113) #[] #[.pointer (some ⟨w.heap.size+1,0,none⟩),.pointer (some ⟨w.heap.size,0,none⟩)])∧w'=(w.alloc (.cells #[.pointer (some ⟨p,0,none⟩)] 105)).alloc (.cells #[.string text] 9):=by
 have hmf:∀ (fn:Fn) (first cap:Array Value) (w:World),(Instr.makeFunc fn first cap).run Tryz.prog w=.ok (.func fn first cap) w:=fun _ _ _ _=>rfl
 go_enter Tryz.func64,Tryz.ntmps64
 go_wp2
 go_ret
 exact ⟨by simp [go_sem],rfl⟩
theorem slice_best (V:World) (f m:Nat) (hm:m≤20):(Instr.sliceAt 237 (.pointer (some ⟨f,8,none⟩)) none (some (.int .i64 (m:Int))) none).run Tryz.prog V=.ok (.slice (some ⟨f,8,none⟩) m 20) V:=by
 have e20:Tryz.prog.arrayLen 237=20:=by kernel_rfl
 have es:(sizeOf (Tryz.prog.elem 237)).run Tryz.prog V=.ok 1 V:=by kernel_rfl
 rw [run_sliceAt_array_h V 237 ⟨f,8,none⟩ (by kernel_rfl) .i64 (m:Int) (by omega) (by rw [e20];omega),es,e20]
 simp [Result.andThen,slicedAt,Addr.add]
theorem places1_once {w:World} {p g c n D bg G bt bp l:Nat} {text:ByteArray} {cd:Nat→In} {X:World→Prop} (hcd:Cd w p g c n D cd) (p1:w.cell? ⟨p,1,none⟩=some (.int .i64 bg)) (p2:w.cell? ⟨p,2,none⟩=some (.int .i64 G)) (hbg:bg < n) (hn:n * (D+1)≤9000) (hG:G≤9) (htx:text.size≤5000)
  (hbt:w.cell? ⟨bt,0,none⟩=some (.string text)) (hbp:w.cell? ⟨bp,0,none⟩=some (.pointer (some ⟨p,0,none⟩)))
  (hY:∀ (W1:World) (f m:Nat) (s':Mc),Kp [] w W1→Runs cd n D text bg (text.size+1) 0 [] mc0 s'→s'.fd=true→W1.rangeAt f 8 (nf s'.best)→w.heap.size≤f →
    YieldAt Fence.wide m Tryz.prog l #[.slice (some ⟨f,8,none⟩) (2+2 * G) 20] W1 fun e W'=>e=.returned (.bool false)∧X W') :
  Calls Tryz.prog 113 #[.func (.yield l) #[] #[],.pointer (some ⟨bt,0,none⟩),.pointer (some ⟨bp,0,none⟩)] w fun e w'=>(∃ v,e=.returned v) ∧
   ((Kp [] w w'∧∃ s',Runs cd n D text bg (text.size+1) 0 [] mc0 s'∧s'.fd=false)∨X w'):=by
 have HCD:=hid hcd
 have P1:=hid p1
 have P2:=hid p2
 have HY:=hid hY
 have p0:=hcd.p0
 have p3:=hcd.p3
 obtain ⟨Q,hQ⟩:∃ Q,Q=n * (D+1):=⟨_,rfl⟩
 rw [←hQ] at hn
 obtain ⟨D1,hD1⟩:∃ D1:Nat,(D:Int)+1=D1:=⟨D+1,by omega⟩
 obtain ⟨T1,hT1⟩:∃ T1:Nat,(text.size:Int)+1=T1:=⟨text.size+1,by omega⟩
 obtain ⟨A1,hA1⟩:∃ A1:Nat,(T1:Int) * (n:Int)=A1:=⟨T1 * n,by push_cast;rfl⟩
 obtain ⟨S1,hS1⟩:∃ S1:Nat,(A1:Int) * (D1:Int)=S1:=⟨A1 * D1,by push_cast;rfl⟩
 have eS1:S1=(text.size+1) * Q:=by
  have e1:D1=D+1:=by omega
  have e2:T1=text.size+1:=by omega
  have e3:A1=T1 * n:=by exact_mod_cast hA1.symm
  have e4:S1=A1 * D1:=by exact_mod_cast hS1.symm
  rw [e4,e3,e2,e1,hQ,Nat.mul_assoc]
 have hS1b:S1≤46000000:=by
  rw [eS1]
  exact Nat.le_trans (Nat.mul_le_mul (show text.size+1≤5001 by omega) hn) (by decide)
 have hDn:D1≤9000:=by
  have h1:=Nat.mul_le_mul_right (D+1) (show 1≤n by omega)
  rw [←hQ] at h1
  omega
 have hA1b:A1≤S1:=by
  have e4:S1=A1 * D1:=by exact_mod_cast hS1.symm
  rw [e4]
  exact Nat.le_mul_of_pos_right _ (by omega)
 have w1:=wrap_i64_nat D1 (by omega)
 have w2:=wrap_i64_nat T1 (by omega)
 have w3:=wrap_i64_nat A1 (by omega)
 have w4:=wrap_i64_nat S1 (by omega)
 have HQ:=hid (And.intro hQ eS1)
 have HE:=hid (And.intro hD1 (And.intro hT1 (And.intro hA1 hS1)))
 clear hcd p1 p2 hY hQ eS1
 go_enter Tryz.func113,Tryz.ntmps113
 go_wp2_with fail
 go_quiet (fail)
 have kq:=Kp.drewN [] w nq
 have qt:(w.drewN nq).cell? ⟨bt,0,none⟩=some (.string text):=hbt
 have qp:(w.drewN nq).cell? ⟨bp,0,none⟩=some (.pointer (some ⟨p,0,none⟩)):=hbp
 have hz:Hid ((w.drewN nq).heap.size=w.heap.size):=hid (by simp)
 generalize w.drewN nq=U at *
 clear hbt hbp p0 p3 w1 w2 w3 w4 hD1 hT1 hA1 hS1
 obtain ⟨N,hN⟩:∃ N:Nat,N=S1 / 64+1:=⟨_,rfl⟩
 have hN2:Hid ((text.size+1) * Q≤64 * N):=hid (by rw [←HQ.out.2];omega)
 have hNb:N≤1000000:=by omega
 obtain ⟨M1,hM1⟩:∃ M1:Nat,M1=S1 / 64:=⟨_,rfl⟩
 have hdiv:(S1:Int) / 64=(M1:Int):=by omega
 have hsum:(M1:Int)+1=(N:Int):=by omega
 have wM:=wrap_i64_nat M1 (by omega)
 clear hM1
 have wN:=wrap_i64_nat N (by omega)
 have hmk:=fun w=>make_words w N hNb
 have HN:=hid hN
 clear hN
 go_wp2_with fail
 rename_i K1 hK1
 have HK1:=hid hK1
 clear hK1
 refine wp_region_noPanic ?_
 refine wp_region_T (fun w':World=>w'.cell? ⟨bp,0,none⟩=some (.pointer (some ⟨p,0,none⟩))∧w'.cell? ⟨bt,0,none⟩=some (.string text)) 8 (by kernel_rfl) ?_
 have hS:(fun w':World=>w'.cell? ⟨bp,0,none⟩=some (.pointer (some ⟨p,0,none⟩))∧w'.cell? ⟨bt,0,none⟩=some (.string text)) U.drew:=⟨qp,qt⟩
 iterate 5 (refine tkn (v:=?_) rfl (by kernel_rfl) (fun _ _ _ h=>h) ⟨rfl,fun w hSw=>?_⟩ hS ?_;rotate_left;(focus ((try dsimp only at hSw);go_simp;(try with_reducible rfl)));(try simp only [List.getElem_toArray,List.getElem_cons_succ,List.getElem_cons_zero,Act.put,List.setIfInBounds_toArray,List.set_cons_zero,List.set_cons_succ]))
 refine wpAnyT_two (i:=5) (j:=7) (by kernel_rfl) rfl rfl (fun K hK=>?_) (fun K hK=>?_)
 ·go_simp
  have hS1:(fun w':World=>w'.cell? ⟨bp,0,none⟩=some (.pointer (some ⟨p,0,none⟩))∧w'.cell? ⟨bt,0,none⟩=some (.string text)) ((U.alloc (.cells (zs N) 228)).drew):=⟨cell_ad qp _,cell_ad qt _⟩
  refine hK.out _ _ (.inr hS1) ?_
  clear hK K
  refine tk1 6 (v:=?_) rfl (by kernel_rfl) (fun _ _ _ h=>h) ⟨rfl,fun w hSw=>?_⟩ hS1 ?_;rotate_left;· ((try dsimp only at hSw);go_simp;(try with_reducible rfl))
  (try simp only [List.getElem_toArray,List.getElem_cons_succ,List.getElem_cons_zero,Act.put,List.setIfInBounds_toArray,List.set_cons_zero,List.set_cons_succ])
  refine wpAnyT_one (i:=7) (by kernel_rfl) rfl (fun K hK=>?_)
  go_simp
  refine hK.out _ _ (.inr ⟨cell_ad (w:=U.alloc (.cells (zs N) 228)) hS1.1 _,cell_ad (w:=U.alloc (.cells (zs N) 228)) hS1.2 _⟩) ?_
  clear hK K
  refine wpAnyT_one (i:=8) (by kernel_rfl) rfl (fun K hK=>?_)
  rw [if_pos (by rfl)]
  refine wp_store_mid 239 (.tmp 5) (.tmp 28) rfl (U.heap.size+1) 0 (fin28 p text U.heap.size N).toArray rfl rfl ?hth Tryz.szFin (all_oneCell_toArray (fin28_one p text U.heap.size N)) ?_
  case hth=>(have:=th28 (U.alloc (.cells (zs N) 228));simpa using this)
  refine hK.out _ _ (.inl rfl) ?_
  clear hK K
  refine wpAnyT_done (by kernel_rfl) ?_ _
  refine NoPanic.normal ?_
  simp only [List.getElem_toArray,List.getElem_cons_succ,List.getElem_cons_zero,Act.put]
  have fs:Fg [] U ((((U.alloc (.cells (zs N) 228)).alloc (.cells z28 239)).drew).setCells (U.heap.size+1) 0 (fin28 p text U.heap.size N).toArray.toList) (U.heap.size+1) p (U.heap.size) N 0 text [] (.slice none 0 0) (.slice none 0 0) (.slice none 0 0) mc0:=by
   refine fg0_of ((Kp.alloc _ _ _).trans ((Kp.alloc _ _ _).trans (Kp.drew _ _))) (by omega) (by omega) (by omega) ?_ ?_ ?_ ?_ (fun e he=>by cases he)
   ·have:=th28 (U.alloc (.cells (zs N) 228));simpa using this
   ·intro i;simp
   ·simp;omega
   ·exact fun i hi=>⟨by have:=range_new U (zs N) 228 i _ (zs_get N i hi);rw [Nat.zero_add] at this;exact cell_ad this _,(free_ad (by have:=range_new U (zs N) 228 i _ (zs_get N i hi);rwa [Nat.zero_add] at this) (by simp) _)⟩
  generalize (((U.alloc (.cells (zs N) 228)).alloc (.cells z28 239)).drew).setCells (U.heap.size+1) 0 (fin28 p text U.heap.size N).toArray.toList=W at *
  have hflo:w.heap.size≤U.heap.size+1:=by have:=hz.out;omega
  clear hS hS1
  generalize U.heap.size+1=f at *
  generalize U.heap.size=sb at *
  have FS:=hid fs
  clear fs hmk wN wM hsum hdiv
  refine HK1.out _ _ ?_
  clear HK1 K1
  refine (wpIn_wide (n:=3)).1 ?_
  gi_wp2
  refine wpIn_loop_rounds 1 ?_
  rw [roundsIn_succ]
  gi_wp2_with fail
  refine ⟨trivial,?_⟩
  refine (callsIn_wide.2 (search_any (fr:=0) FS.out rfl rfl (HCD.out.keep kq) ((kq.cell (p:=⟨p,1,none⟩) HCD.out.hp (by simp)).trans P1.out) hbg (by rw [←HQ.out.1];exact hn) (by rw [←HQ.out.1];exact hN2.out) hNb htx (Nat.zero_le _))).mono ?_
  rintro e W1 ⟨s',pl',u3,u4,u5,rfl,fg,_,_,runs⟩
  have FG:=hid fg
  have RU:=hid runs
  have kp1:=hid (kq.trans fg.kp)
  have b0:=(fg.kp.cell (p:=⟨bp,0,none⟩) (World.block_lt_of_cell? _ _ qp) (by simp)).trans qp
  have b2:=((kq.trans fg.kp).cell (p:=⟨p,2,none⟩) HCD.out.hp (by simp)).trans P2.out
  clear runs fg FS
  obtain ⟨fdv,hfdv⟩:∃ b,s'.fd=b:=⟨_,rfl⟩
  rw [hfdv]
  cases fdv with
  | false=>
   gi_wp2
   go_end0
   exact ⟨⟨_,rfl⟩,.inl ⟨kp1.out,s',RU.out,hfdv⟩⟩
  | true=>
   obtain ⟨G2,hG2⟩:∃ G2:Nat,(2:Int) * (G:Int)=(G2:Int):=⟨2 * G,by push_cast;rfl⟩
   obtain ⟨m,hm⟩:∃ m:Nat,(2:Int)+(G2:Int)=(m:Int):=⟨2+G2,by push_cast;rfl⟩
   have wg:=wrap_i64_nat G2 (by omega)
   have wm:=wrap_i64_nat m (by omega)
   have hm20:m≤20:=by omega
   have hsl:∀ V:World,(Instr.sliceAt 237 (.pointer (some ⟨f,8,none⟩)) none (some (.int .i64 (m:Int))) none).run Tryz.prog V=.ok (.slice (some ⟨f,8,none⟩) m 20) V:=fun V=>slice_best V f m hm20
   obtain ⟨fn,tmps,assign,body,hy,hR⟩:=HY.out W1 f 2 s' kp1.out RU.out hfdv FG.out.best hflo
   rw [show 2+2 * G=m by omega] at hy
   gi_wp2
   refine hR.mono ?_
   rintro e W2 ⟨rfl,hX⟩
   gi_wp2
   refine bodyPost_ret (results_none rfl _ _ _) rfl ?_
   exact ⟨⟨_,rfl⟩,.inr hX⟩
 ·go_simp
  have hS1:(fun w':World=>w'.cell? ⟨bp,0,none⟩=some (.pointer (some ⟨p,0,none⟩))∧w'.cell? ⟨bt,0,none⟩=some (.string text)) ((U.alloc (.cells z28 239)).drew):=⟨cell_ad qp _,cell_ad qt _⟩
  refine hK.out _ _ (.inr hS1) ?_
  clear hK K
  refine wpAnyT_one (i:=5) (by kernel_rfl) rfl (fun K hK=>?_)
  go_simp
  have hS2:(fun w':World=>w'.cell? ⟨bp,0,none⟩=some (.pointer (some ⟨p,0,none⟩))∧w'.cell? ⟨bt,0,none⟩=some (.string text)) (((U.alloc (.cells z28 239)).alloc (.cells (zs N) 228)).drew):=⟨cell_ad (w:=U.alloc (.cells z28 239)) hS1.1 _,cell_ad (w:=U.alloc (.cells z28 239)) hS1.2 _⟩
  refine hK.out _ _ (.inr hS2) ?_
  clear hK K
  refine tk1 6 (v:=?_) rfl (by kernel_rfl) (fun _ _ _ h=>h) ⟨rfl,fun w hSw=>?_⟩ hS2 ?_;rotate_left;· ((try dsimp only at hSw);go_simp;(try with_reducible rfl))
  (try simp only [List.getElem_toArray,List.getElem_cons_succ,List.getElem_cons_zero,Act.put,List.setIfInBounds_toArray,List.set_cons_zero,List.set_cons_succ])
  refine wpAnyT_one (i:=8) (by kernel_rfl) rfl (fun K hK=>?_)
  rw [if_pos (by rfl)]
  refine wp_store_mid 239 (.tmp 5) (.tmp 28) rfl U.heap.size 0 (fin28 p text (U.heap.size+1) N).toArray rfl rfl ?hth Tryz.szFin (all_oneCell_toArray (fin28_one p text (U.heap.size+1) N)) ?_
  case hth=>exact th28_old (th28 U) _
  refine hK.out _ _ (.inl rfl) ?_
  clear hK K
  refine wpAnyT_done (by kernel_rfl) ?_ _
  refine NoPanic.normal ?_
  simp only [List.getElem_toArray,List.getElem_cons_succ,List.getElem_cons_zero,Act.put]
  have hsB:(U.alloc (.cells z28 239)).heap.size=U.heap.size+1:=by simp
  have fs:Fg [] U ((((U.alloc (.cells z28 239)).alloc (.cells (zs N) 228)).drew).setCells U.heap.size 0 (fin28 p text (U.heap.size+1) N).toArray.toList) (U.heap.size) p (U.heap.size+1) N 0 text [] (.slice none 0 0) (.slice none 0 0) (.slice none 0 0) mc0:=by
   refine fg0_of ((Kp.alloc _ _ _).trans ((Kp.alloc _ _ _).trans (Kp.drew _ _))) (by omega) (by omega) (by omega) ?_ ?_ ?_ ?_ (fun e he=>by cases he)
   ·exact th28_old (th28 U) _
   ·intro i;simp
   ·simp
   ·exact fun i hi=>⟨by have:=range_new (U.alloc (.cells z28 239)) (zs N) 228 i _ (zs_get N i hi);rw [Nat.zero_add,hsB] at this;exact this,by show ((U.alloc (.cells z28 239)).alloc (.cells (zs N) 228)).frozen? _=false;have:=fun j=>(show ((U.alloc (.cells z28 239)).alloc (.cells (zs N) 228)).frozen? ⟨(U.alloc (.cells z28 239)).heap.size,j,none⟩=false by simp);rw [hsB] at this;exact this i⟩
  generalize (((U.alloc (.cells z28 239)).alloc (.cells (zs N) 228)).drew).setCells U.heap.size 0 (fin28 p text (U.heap.size+1) N).toArray.toList=W at *
  have hflo:w.heap.size≤U.heap.size:=by have:=hz.out;omega
  clear hS hS1 hS2 hsB
  generalize U.heap.size+1=sb at *
  generalize U.heap.size=f at *
  have FS:=hid fs
  clear fs hmk wN wM hsum hdiv
  refine HK1.out _ _ ?_
  clear HK1 K1
  refine (wpIn_wide (n:=3)).1 ?_
  gi_wp2
  refine wpIn_loop_rounds 1 ?_
  rw [roundsIn_succ]
  gi_wp2_with fail
  refine ⟨trivial,?_⟩
  refine (callsIn_wide.2 (search_any (fr:=0) FS.out rfl rfl (HCD.out.keep kq) ((kq.cell (p:=⟨p,1,none⟩) HCD.out.hp (by simp)).trans P1.out) hbg (by rw [←HQ.out.1];exact hn) (by rw [←HQ.out.1];exact hN2.out) hNb htx (Nat.zero_le _))).mono ?_
  rintro e W1 ⟨s',pl',u3,u4,u5,rfl,fg,_,_,runs⟩
  have FG:=hid fg
  have RU:=hid runs
  have kp1:=hid (kq.trans fg.kp)
  have b0:=(fg.kp.cell (p:=⟨bp,0,none⟩) (World.block_lt_of_cell? _ _ qp) (by simp)).trans qp
  have b2:=((kq.trans fg.kp).cell (p:=⟨p,2,none⟩) HCD.out.hp (by simp)).trans P2.out
  clear runs fg FS
  obtain ⟨fdv,hfdv⟩:∃ b,s'.fd=b:=⟨_,rfl⟩
  rw [hfdv]
  cases fdv with
  | false=>
   gi_wp2
   go_end0
   exact ⟨⟨_,rfl⟩,.inl ⟨kp1.out,s',RU.out,hfdv⟩⟩
  | true=>
   obtain ⟨G2,hG2⟩:∃ G2:Nat,(2:Int) * (G:Int)=(G2:Int):=⟨2 * G,by push_cast;rfl⟩
   obtain ⟨m,hm⟩:∃ m:Nat,(2:Int)+(G2:Int)=(m:Int):=⟨2+G2,by push_cast;rfl⟩
   have wg:=wrap_i64_nat G2 (by omega)
   have wm:=wrap_i64_nat m (by omega)
   have hm20:m≤20:=by omega
   have hsl:∀ V:World,(Instr.sliceAt 237 (.pointer (some ⟨f,8,none⟩)) none (some (.int .i64 (m:Int))) none).run Tryz.prog V=.ok (.slice (some ⟨f,8,none⟩) m 20) V:=fun V=>slice_best V f m hm20
   obtain ⟨fn,tmps,assign,body,hy,hR⟩:=HY.out W1 f 2 s' kp1.out RU.out hfdv FG.out.best hflo
   rw [show 2+2 * G=m by omega] at hy
   gi_wp2
   refine hR.mono ?_
   rintro e W2 ⟨rfl,hX⟩
   gi_wp2
   refine bodyPost_ret (results_none rfl _ _ _) rfl ?_
   exact ⟨⟨_,rfl⟩,.inr hX⟩
variable {Z:List (Nat×Obj)}
attribute [local go_sem] Oper.semAt_some
theorem grown_kp {W w':World} {row:Option Nat} (hg:W.grownBy w' row):Kp row.toList W w':=
 ⟨hg.os,hg.tape,hg.output,hg.size,fun k hk hn=>hg.block k hk (fun e=>hn (by rw [←e];simp))⟩
section
variable {F:Fence} {n:Nat} {P:Program}
theorem range_enters {g:Operand} {ps:Array Tmp} {assign body:Code} {Q:Exit→Act→World→Prop} {a:Act} {w:World} (hro:F.round=none) (h1:1≤n) {gf:Nat} {lb:Array Value} (hg:a.eval g=.func (.func gf) #[] lb) (hFg:F.fn gf)
  (eg:∀ args w,(callFunc gf args).run P w=.ok (.enter gf args) w)
  (h:∀ (r:Loop) (W:World),F.fn r.fn→r.state=.ready→r.pending=none→r.tmps=a.tmps→r.params=ps→r.assign=assign→r.body=body→W=(w.alloc (.deferred (some []))).alloc (.loop r) →
    CallsIn F (n - 1) P gf (#[.func (.yield (w.heap.size+1)) #[] #[]]++lb) W (rangePost F n P (w.heap.size+1) Q { a with defers:=[{ target:=.collected w.heap.size,args:=#[] }]++a.defers })) :
  (Code.rangeFunc g ps assign body).wpIn F n P Q a w:=by
 refine wpIn_rangeFunc (fun fn hfn=>?_)
 rw [hro]
 obtain ⟨r,hr⟩:∃ r:Loop,r={ state:=.ready,pending:=none,fn,tmps:=a.tmps,params:=ps,assign,body,defers:=w.heap.size }:=⟨_,rfl⟩
 obtain ⟨W,hW⟩:∃ W:World,W=(w.alloc (.deferred (some []))).alloc (.loop r):=⟨_,rfl⟩
 refine ⟨w.heap.size+1,[{ target:=.collected w.heap.size,args:=#[] }],W,{ target:=.fn (.func gf) lb,args:=#[.func (.yield (w.heap.size+1)) #[] #[]] },W,gf,#[.func (.yield (w.heap.size+1)) #[] #[]]++lb,W,by rw [hW,hr];exact run_enterLoop_outer _ _ _ _ _,?_,?_,?_,fun _=>h1,?_⟩
 ·simp only [resolve,hg]
  simp [go_sem]
 ·intro f' hf'
  simp [Target.leads] at hf'
  subst hf';exact hFg
 ·simp [invoke,go_sem,eg]
 ·exact h r W (by rw [hr];exact hfn) (by rw [hr]) (by rw [hr]) (by rw [hr]) (by rw [hr]) (by rw [hr]) (by rw [hr]) hW
theorem round_goes {l m:Nat} {r:Loop} {W:World} {args:Array Value} {R:Ending→World→Prop} (hF:F.fn r.fn) (hl:W.heap[l]? = some (.loop r)) (hr:r.state=.ready) (hs:args.size=r.params.size)
  (h:∀ (rb:Loop) (K:Act→World→Prop),(∀ a₁,r.body.wpIn (F.inRound l) m P (roundPost P l R) a₁ (W.putObj l (.loop rb))→K a₁ W) →
    r.assign.wpIn (F.inRound l) m P (Exit.then K (fun _ _ _=>False)) { tmps:=(r.params.zip args).foldl (fun tmps (t,a)=>tmps.setIfInBounds t a) r.tmps,defers:=[] } W):YieldAt F m P l args W R:=by
 refine ⟨r.fn,_,r.assign,r.body,run_yield hl hs,roundIn_of_wpIn hF ?_⟩
 exact h _ _ (fun a₁ hb=>⟨_,run_beginRound hl hr,hb⟩)
theorem loop_ends {l:Nat} {r:Loop} {W:World} (h:W.heap[l]? = some (.loop r)) (hb:r.state≠.busy):∃ W2,(Instr.endLoop l).run P W=.ok r.pending W2∧Kp [l] W W2:=
 ⟨_,run_endLoop h hb,(grown_kp (grownBy_putObj' W l _)).mono (by simp)⟩
theorem mark_taken {b:Nat} {W:World} (h:W.heap[b]? = some (.deferred (some []))):∃ W2,(Instr.takeDeferred b).run P W=.ok [] W2∧Kp [b] W W2:=
 ⟨_,run_takeDeferred h,(grown_kp (grownBy_putObj' W b _)).mono (by simp)⟩
end
theorem Tryz.infoInt:(Tryz.prog.info? 3).map (fun i=>(i.zero,i.size,i.bytes))=some (some (.int .i64 0),1,8):=by kernel_rfl
theorem clone_any {w:World} {f o m q:Nat} {xs:List Value} (hx:xs.length=m) (h1:∀ u∈xs,u.oneCell'=true) (hc:∀ j u,xs[j]? = some u→w.cell? ⟨f,o+j,none⟩=some u) (hm:0 < m) (hm2:m≤20) :
  Calls Tryz.prog 65 #[.slice (some ⟨f,o,none⟩) m q] w fun e w'=>∃ b c,e=.returned (.slice (some ⟨b,0,none⟩) m c)∧w'.ownsRow w.heap.size 3 1 (.slice (some ⟨b,0,none⟩) m c) m xs∧Kp [] w w':=by
 obtain ⟨i0,hi,hz0,hz1,hz2⟩:=info_parts Tryz.infoInt
 have HX:=hid hx
 have HC:=hid hc
 have H1:=hid h1
 clear hx hc h1
 have heq:∀ w,(binOp .eql 60 (.slice (some ⟨f,o,none⟩) m q) (.slice none 0 0)).run Tryz.prog w=.ok (.bool false) w:=fun w=>Lib.run_eql_slice_nil w 60 _ (some ⟨f,o,none⟩) m q 0 0 Tryz.underlying60
 go_enter Tryz.func65,Tryz.ntmps65
 have hB:∀ o:Obj,(w.alloc o).heap.size=w.heap.size+1:=fun o=>by simp
 have OW:Hid ((w.alloc (.cells #[] 3)).ownsRow w.heap.size 3 1 (.slice (some ⟨w.heap.size,0,none⟩) 0 0) 0 []):=hid ⟨rfl,.inr ⟨w.heap.size,0,#[],rfl,Nat.le_refl _,World.alloc_heap_new w _,Nat.le_refl _,by unfold maxLen;omega,by simp,by simp⟩⟩
 go_wp2_with (at_builtin;refine wpList_append_own _ rfl _ _ 60 rfl w.heap.size 3 i0 (.int .i64 0) 1 8 Tryz.underlying60 hi hz0 hz1 hz2 rfl (by decide) _ _ _ rfl OW.out ⟨f,o,none⟩ m q xs rfl (by rw [HX.out];simp) (fun j u hu=>?c1) H1.out (by unfold maxLen;omega) (by omega) (by simp) ?_)
 case c1=>
  rw [addr_add]
  exact cell_new (HC.out j u hu) _
 intro v' w2 own2 grow2 _
 have kg:=grown_kp grow2
 have K2:Kp [] w w2:=Kp.own (x:=w.heap.size) ((Kp.alloc [w.heap.size] w _).trans (kg.mono (by simp [Value.ownBlock]))) (Nat.le_refl _)
 have hex:∃ b c,v'=.slice (some ⟨b,0,none⟩) m c∧w2.ownsRow w.heap.size 3 1 (.slice (some ⟨b,0,none⟩) m c) m xs:=by
  have own3:w2.ownsRow w.heap.size 3 1 v' m xs:=by simpa using own2
  rcases own_formP own3 with ⟨_,h0⟩ | ⟨b,c,e⟩
  ·omega
  ·subst e
   exact ⟨b,c,rfl,own3⟩
 obtain ⟨b,c,rfl,hcell⟩:=hex
 have HCELL:=hid hcell
 clear hcell own2 grow2 kg
 go_wp2_with fail
 go_ret
 exact ⟨b,c,rfl,HCELL.out,K2⟩
theorem find_new {w:World} {p g c n D bg G:Nat} {text:ByteArray} {cd:Nat→In} (hcd:Cd w p g c n D cd) (p1:w.cell? ⟨p,1,none⟩=some (.int .i64 bg)) (p2:w.cell? ⟨p,2,none⟩=some (.int .i64 G)) (hbg:bg < n) (hn:n * (D+1)≤9000) (hG:G≤9) (htx:text.size≤5000) :
  Calls Tryz.prog 35 #[.pointer (some ⟨p,0,none⟩),.string text] w fun e w'=>Kp [] w w'∧∃ s',Runs cd n D text bg (text.size+1) 0 [] mc0 s' ∧
   ((s'.fd=false∧e=.returned (.slice none 0 0))∨(s'.fd=true∧∃ b c,e=.returned (.slice (some ⟨b,0,none⟩) (2+2 * G) c)∧w'.ownsRow w.heap.size 3 1 (.slice (some ⟨b,0,none⟩) (2+2 * G) c) (2+2 * G) ((nf s'.best).take (2+2 * G)))):=by
 have HCD:=hid hcd
 have P1:=hid p1
 have P2:=hid p2
 clear hcd p1 p2
 refine (callsIn_wide (n:=5)).1 ?_
 refine callsIn_of_wp_marks Tryz.func35 rfl trivial ?_ rfl
 simp only [Tryz.ntmps35,List.size_toArray,List.length_cons,List.length_nil,Nat.reduceAdd,Nat.reduceSub,Array.replicate_succ,Array.replicate_zero,List.push_toArray,List.append_toArray,List.nil_append,List.cons_append]
 gi_wp2_with (refine ⟨trivial,?_⟩;gi_at_call 64;refine (callsIn_wide.2 (places_any _ _ _)).mono ?_;rintro e w1 ⟨rfl,rfl⟩)
 obtain ⟨W0,hW0⟩:∃ W0:World,((w.alloc (.cells #[.slice none 0 0] 60)).alloc (.cells #[.pointer (some ⟨p,0,none⟩)] 105)).alloc (.cells #[.string text] 9)=W0:=⟨_,rfl⟩
 have k0:Kp [] w W0:=by rw [←hW0];exact (Kp.alloc _ _ _).trans ((Kp.alloc _ _ _).trans (Kp.alloc _ _ _))
 have z0:W0.heap.size=w.heap.size+3:=by rw [←hW0];simp
 have a0:W0.cell? ⟨w.heap.size,0,none⟩=some (.slice none 0 0):=by rw [←hW0];simp [go_sem]
 have a1:W0.cell? ⟨w.heap.size+1,0,none⟩=some (.pointer (some ⟨p,0,none⟩)):=by rw [←hW0];simp [go_sem]
 have a2:W0.cell? ⟨w.heap.size+1+1,0,none⟩=some (.string text):=by rw [←hW0];simp [go_sem]
 have f0:W0.frozen? ⟨w.heap.size,0,none⟩=false:=by rw [←hW0];simp [go_sem]
 rw [hW0]
 refine range_enters rfl (by decide) (gf:=113) (lb:=#[.pointer (some ⟨w.heap.size+1+1,0,none⟩),.pointer (some ⟨w.heap.size+1,0,none⟩)]) rfl trivial (enters_of Tryz.func113 (by kernel_rfl) rfl) ?_
 rintro r W hfn hst hpd htm hps has hbd hW
 have kW:Kp [] W0 W:=by rw [hW];exact (Kp.alloc _ _ _).trans (Kp.alloc _ _ _)
 have zW:W.heap.size=w.heap.size+5:=by rw [hW];simp;omega
 have hl:W.heap[w.heap.size+4]? = some (.loop r):=by
  rw [hW]
  have:=World.alloc_heap_new (W0.alloc (.deferred (some []))) (.loop r)
  rwa [World.size_alloc,z0] at this
 have hD:W.heap[w.heap.size+3]? = some (.deferred (some [])):=by
  rw [hW]
  refine (Below.heap_alloc _ _ _ (by simp;omega)).trans ?_
  have:=World.alloc_heap_new W0 (.deferred (some []))
  rwa [z0] at this
 have b0:=(kW.cell (p:=⟨w.heap.size,0,none⟩) (by simp;omega) (by simp)).trans a0
 have b1:=(kW.cell (p:=⟨w.heap.size+1,0,none⟩) (by simp;omega) (by simp)).trans a1
 have b2:=(kW.cell (p:=⟨w.heap.size+1+1,0,none⟩) (by simp;omega) (by simp)).trans a2
 have g0:=(kW.frozen (p:=⟨w.heap.size,0,none⟩) (by simp;omega) (by simp)).trans f0
 have kw:=k0.trans kW
 rw [show W0.heap.size=w.heap.size+3 from z0]
 refine (callsIn_wide.2 (places1_once (l:=w.heap.size+4) (bt:=w.heap.size+1+1) (bp:=w.heap.size+1)
  (X:=fun W'=>∃ (s':Mc) (b c:Nat),Runs cd n D text bg (text.size+1) 0 [] mc0 s'∧s'.fd=true∧(∃ rd:Loop,rd.state≠.busy∧rd.pending=some .ret∧W'.heap[w.heap.size+4]? = some (.loop rd))∧W'.heap[w.heap.size+3]? = some (.deferred (some []))∧Kp [w.heap.size,w.heap.size+4] W W'∧W.heap.size≤b ∧
    W'.cell? ⟨w.heap.size,0,none⟩=some (.slice (some ⟨b,0,none⟩) (2+2 * G) c)∧W'.ownsRow w.heap.size 3 1 (.slice (some ⟨b,0,none⟩) (2+2 * G) c) (2+2 * G) ((nf s'.best).take (2+2 * G)))
  (HCD.out.keep kw) ((kw.cell (p:=⟨p,1,none⟩) HCD.out.hp (by simp)).trans P1.out) ((kw.cell (p:=⟨p,2,none⟩) HCD.out.hp (by simp)).trans P2.out) hbg hn hG htx b2 b1 ?hY)).mono ?_
 case hY=>
  intro W1 f m s' k1 runs hfd rng hflo
  have hl1:W1.heap[w.heap.size+4]? = some (.loop r):=(k1.block _ (by omega) (by simp)).trans hl
  refine round_goes hfn hl1 hst (by rw [hps];rfl) ?_
  rw [has,hbd,hps,htm]
  intro rb K hK
  have HK:=hid hK
  clear hK
  gi_wp2
  refine HK.out _ ?_
  clear HK K
  obtain ⟨W2,hW2⟩:∃ W2:World,W1.putObj (w.heap.size+4) (.loop rb)=W2:=⟨_,rfl⟩
  have k2:Kp [w.heap.size+4] W1 W2:=by rw [←hW2];exact (grown_kp (grownBy_putObj' W1 (w.heap.size+4) _)).mono (by simp)
  have hl2:W2.heap[w.heap.size+4]? = some (.loop rb):=by rw [←hW2];exact World.putObj_heap_same (Array.getElem?_eq_some_iff.1 hl1).1
  have z1:=k1.size
  have hfl:f < W1.heap.size:=World.block_lt_of_cell? _ _ (rng 0 _ rfl)
  have RN:Hid (∀ j u,((nf s'.best).take (2+2 * G))[j]? = some u→W2.cell? ⟨f,8+j,none⟩=some u):=hid (fun j u hu=>by
   rw [List.getElem?_take] at hu
   split at hu
   ·exact (k2.cell (p:=⟨f,8+j,none⟩) hfl (by simp;omega)).trans (rng j u hu)
   ·cases hu)
  have hone:Hid (∀ v∈(nf s'.best).take (2+2 * G),v.oneCell'=true):=hid (fun v hv=>tf_one 0 0 s'.best v (List.mem_cons_of_mem _ (List.mem_cons_of_mem _ (List.mem_of_mem_take hv))))
  have hlm:Hid (((nf s'.best).take (2+2 * G)).length=2+2 * G):=hid (by rw [List.length_take];show min (2+2 * G) 20=_;omega)
  have c0:=((k2.cell (p:=⟨w.heap.size,0,none⟩) (by simp;omega) (by simp)).trans ((k1.cell (p:=⟨w.heap.size,0,none⟩) (by simp;omega) (by simp)).trans b0))
  have e0:=((k2.frozen (p:=⟨w.heap.size,0,none⟩) (by simp;omega) (by simp)).trans ((k1.frozen (p:=⟨w.heap.size,0,none⟩) (by simp;omega) (by simp)).trans g0))
  have z2:=k2.size
  rw [hW2]
  gi_wp2_with fail
  refine ⟨trivial,fun h=>absurd h (by decide),?_⟩
  refine (CallsIn.inRound _ (callsIn_wide.2 (clone_any hlm.out hone.out RN.out (by omega) (by omega)))).mono ?_
  rintro e W3 ⟨b,c',rfl,hcell,k3⟩
  have hb:=(hcell.lt b (by simp [Value.ownBlock])).1
  have d0:=(k3.cell (p:=⟨w.heap.size,0,none⟩) (by simp;omega) (by simp)).trans c0
  have h0:=(k3.frozen (p:=⟨w.heap.size,0,none⟩) (by simp;omega) (by simp)).trans e0
  have hl3:W3.heap[w.heap.size+4]? = some (.loop rb):=(k3.block _ (by omega) (by simp)).trans hl2
  have HC:=hid hcell
  clear hcell c0 e0
  gi_wp2
  have hl4:(W3.setCell ⟨w.heap.size,0,none⟩ (.slice (some ⟨b,0,none⟩) (2+2 * G) c')).heap[w.heap.size+4]? = some (.loop rb):=(Below.heap_setCell _ _ _ _ (by show w.heap.size+4≠w.heap.size;omega)).trans hl3
  refine ⟨_,_,run_endRound (some .ret) hl4,rfl,s',b,c',runs,hfd,⟨_,?_,?_,World.putObj_heap_same (Array.getElem?_eq_some_iff.1 hl4).1⟩,?_,?_,by omega,?_,?_⟩
  ·simp
  ·rfl
  ·refine (World.putObj_heap_other (by omega)).trans ((Below.heap_setCell _ _ _ _ (by show w.heap.size+3≠w.heap.size;omega)).trans ?_)
   exact (k3.block _ (by omega) (by simp)).trans ((k2.block _ (by omega) (by simp)).trans ((k1.block _ (by omega) (by simp)).trans hD))
  ·exact (k1.mono (by simp)).trans ((k2.mono (by simp)).trans ((k3.mono (by simp)).trans ((Kp.setCell _ _ (by simp)).trans ((grown_kp (grownBy_putObj' _ (w.heap.size+4) _)).mono (by simp)))))
  ·refine ((grown_kp (grownBy_putObj' _ (w.heap.size+4) _)).cell (p:=⟨w.heap.size,0,none⟩) (by have:=k3.size;simp [World.setCell];omega) (by simp)).trans ?_
   exact cell_same _ d0
  ·have hbl:=(HC.out.lt b (by simp [Value.ownBlock])).2
   refine ownsRow_lower (owns_of_block HC.out (fun k hk _=>?_)) (by omega)
   simp only [Value.ownBlock,Option.map_some,Option.some.injEq] at hk
   subst hk
   refine ((grown_kp (grownBy_putObj' _ (w.heap.size+4) _)).block b (by simp [World.setCell];omega) (by simp;omega)).trans ?_
   exact Below.heap_setCell _ _ _ _ (by show b≠w.heap.size;omega)
 rintro e W' ⟨⟨v,rfl⟩,(⟨kk,s',runs,hfd⟩ | ⟨s',b,c',runs,hfd,⟨rd,h1,h2,h3⟩,hDD,kk,hb,hcell,hcells⟩)⟩
 ·have hl':W'.heap[w.heap.size+4]? = some (.loop r):=(kk.block _ (by omega) (by simp)).trans hl
  have hD':W'.heap[w.heap.size+3]? = some (.deferred (some [])):=(kk.block _ (by omega) (by simp)).trans hD
  obtain ⟨W6,hre,k6⟩:=loop_ends (P:=Tryz.prog) hl' (by rw [hst];simp)
  rw [hpd] at hre
  have zk:=kk.size
  refine ⟨none,W6,hre,?_⟩
  have hD6:W6.heap[w.heap.size+3]? = some (.deferred (some [])):=(k6.block _ (by omega) (by simp)).trans hD'
  have c6:=(k6.cell (p:=⟨w.heap.size,0,none⟩) (by simp;omega) (by simp)).trans ((kk.cell (p:=⟨w.heap.size,0,none⟩) (by simp;omega) (by simp)).trans b0)
  have e6:=(k6.frozen (p:=⟨w.heap.size,0,none⟩) (by simp;omega) (by simp)).trans ((kk.frozen (p:=⟨w.heap.size,0,none⟩) (by simp;omega) (by simp)).trans g0)
  show Exit.inBlock _ _ _ _ _
  gi_wp2
  have hD7:(W6.setCell ⟨w.heap.size,0,none⟩ (.slice none 0 0)).heap[w.heap.size+3]? = some (.deferred (some [])):=(Below.heap_setCell _ _ _ _ (by show w.heap.size+3≠w.heap.size;omega)).trans hD6
  obtain ⟨W8,htk,k8⟩:=mark_taken (P:=Tryz.prog) hD7
  have c8:W8.cell? ⟨w.heap.size,0,none⟩=some (.slice none 0 0):=(k8.cell (p:=⟨w.heap.size,0,none⟩) (by have:=k6.size;simp [World.setCell];omega) (by simp)).trans (cell_same _ c6)
  refine ⟨by simp,.inl ⟨_,_,rfl,htk,?_⟩⟩
  have KK:Kp [w.heap.size,w.heap.size+3,w.heap.size+4] w W8:=(kw.mono (by simp)).trans ((kk.mono (by simp)).trans ((k6.mono (by simp)).trans ((Kp.setCell _ _ (by simp)).trans (k8.mono (by simp)))))
  refine ⟨.slice none 0 0,?_,?_,s',runs,.inl ⟨hfd,rfl⟩⟩
  ·simp [results,Tryz.f35,go_sem,c8]
  ·exact Kp.own (x:=w.heap.size+4) (Kp.own (x:=w.heap.size+3) (Kp.own (x:=w.heap.size) (KK.mono (by simp)) (Nat.le_refl _)) (by omega)) (by omega)
 ·obtain ⟨W6,hre,k6⟩:=loop_ends (P:=Tryz.prog) h3 h1
  rw [h2] at hre
  have zk:=kk.size
  have hD6:W6.heap[w.heap.size+3]? = some (.deferred (some [])):=(k6.block _ (by omega) (by simp)).trans hDD
  have c6:=(k6.cell (p:=⟨w.heap.size,0,none⟩) (by simp;omega) (by simp)).trans hcell
  refine ⟨some .ret,W6,hre,?_⟩
  show Code.wpIn _ _ _ _ _ _ _
  gi_wp2
  obtain ⟨W8,htk,k8⟩:=mark_taken (P:=Tryz.prog) hD6
  have zk6:=k6.size
  have c8:W8.cell? ⟨w.heap.size,0,none⟩=some (.slice (some ⟨b,0,none⟩) (2+2 * G) c'):=(k8.cell (p:=⟨w.heap.size,0,none⟩) (by simp;omega) (by simp)).trans c6
  have hbl:=(hcells.lt b (by simp [Value.ownBlock])).2
  refine ⟨by simp,.inl ⟨_,_,rfl,htk,?_⟩⟩
  have KK:Kp [w.heap.size,w.heap.size+3,w.heap.size+4] w W8:=(kw.mono (by simp)).trans ((kk.mono (by simp)).trans ((k6.mono (by simp)).trans (k8.mono (by simp))))
  refine ⟨.slice (some ⟨b,0,none⟩) (2+2 * G) c',?_,?_,s',runs,.inr ⟨hfd,b,c',rfl,?_⟩⟩
  ·simp [results,Tryz.f35,go_sem,c8]
  ·exact Kp.own (x:=w.heap.size+4) (Kp.own (x:=w.heap.size+3) (Kp.own (x:=w.heap.size) (KK.mono (by simp)) (Nat.le_refl _)) (by omega)) (by omega)
  ·refine owns_of_block hcells (fun k hk _=>?_)
   simp only [Value.ownBlock,Option.map_some,Option.some.injEq] at hk
   subst hk
   exact (k8.block b (by omega) (by simp;omega)).trans (k6.block b (by omega) (by simp;omega))
