import Derived.Test.YtnfglkdkmcocnaaGreatDoorR24
set_option maxRecDepth 100000
set_option maxHeartbeats 16000000
set_option linter.all false
namespace Go.Proofs.YtnfglkdkmcocnaaGreatDoor
open Go.RowKit
section
variable {w w' w1:World}
theorem storeBl {P:Program} {ops:Array Oper} {rest:List Oper} {op:Oper} {a:Act} {Q:Exit→Act→World→Prop} {b:Nat} {cv cells:List Value} (hgd:op.guard=none) (ty:TypeId) (x y:Operand) (ho:op.op=.store ty x y)
  (hx:a.eval x=.pointer (some ⟨b,0,none⟩)) (hy:a.eval y=.agg cells.toArray) (B0:Bl w b cv) (hl:cells.length=cv.length) (hi:(P.info? ty).map (·.size)=some cells.length) (h1:∀ u∈cells,u.oneCell'=true)
  (h:∀ w2,Bl w2 b cells→Kp [b] w w2→wpList P ops Q rest (a.put op.dst undef) w2):wpList P ops Q (op::rest) a w:=by
 refine wpList_store_mid hgd ty x y ho b 0 cells.toArray hx hy (fun j hj=>?_) (by simpa using hi) (all_oneCell_toArray h1) (h _ ?_ ?_)
 ·have hj':j < cv.length:=by rw [←hl];simpa using hj
  rw [Nat.zero_add,B0.at_ j _ (List.getElem?_eq_getElem hj')]
  exact ⟨rfl,B0.free j⟩
 ·exact B0.put hl
 ·exact kp_setCells (S:=[b]) (by simp) _ _ _
theorem Kp.news {S:List Nat} (h:Kp S w w') (hS:∀ x∈S,w.heap.size≤x):Kp [] w w':=
 ⟨h.os,h.tape,h.output,h.size,fun i hi _=>h.block i hi fun hm=>by have:=hS i hm;omega⟩
theorem ng_step (c s:Nat):nu (nu (ngZ c) (2 * c) (-1)) (2 * c+1) (-1) s=ngZ (c+1) s:=by
 unfold nu ngZ
 by_cases h1:s=2 * c+1
 ·rw [if_pos h1,if_pos (by omega)]
 ·rw [if_neg h1]
  by_cases h2:s=2 * c
  ·rw [if_pos h2,if_pos (by omega)]
  ·rw [if_neg h2]
   by_cases h3:s / 2 < c
   ·rw [if_pos h3,if_pos (by omega)]
   ·rw [if_neg h3,if_neg (by omega)]
abbrev zW:Array Value:=#[.int .i64 0,.int .i64 0,.int .i64 0,.int .i64 0,.int .i64 0,.int .i64 0,.int .i64 0,.int .i64 0,.int .i64 0,.int .i64 0,.int .i64 0,.int .i64 0,.int .i64 0,.int .i64 0,.int .i64 0,.int .i64 0,.int .i64 0,.int .i64 0,.int .i64 0,.int .i64 0,.int .i64 0]
theorem still_any {x:Nat}:Calls Tryz.prog 118 #[.int .i64 (x:Nat)] w fun e w'=>e=.returned (.agg (wyC (x,neg)).toArray)∧Kp [] w w':=by
 have R0:=hid (Bl.alloc w zW.toList 197)
 go_enter Tryz.func118,Tryz.ntmps118
 go_upto_region 1 with fail
 obtain ⟨wa,hwa⟩:∃ wa,wa=w.alloc (.cells zW 197):=⟨_,rfl⟩
 have R1:Hid (Bl wa w.heap.size zW.toList∧Kp [] w wa):=hid (by rw [hwa];exact ⟨R0.out,Kp.alloc _ _ _⟩)
 change Code.wp _ _ _ _ (w.alloc (.cells zW 197))
 rw [←hwa]
 clear R0 hwa
 obtain ⟨rb,hrb⟩:∃ rb,rb=w.heap.size:=⟨_,rfl⟩
 rw [←hrb] at R1 ⊢
 go_upto_region 2 with (refine newVarR (w1:=wa) rfl 197 (.tmp 3) (.tmp 6) rfl _ _ _ rfl rfl rfl Tryz.szWayR (by exact wyC_one (x,fun _=>0)) ?_;intro w2 b2 k2)
 have b2:Wb w2 wa.heap.size (x,fun _=>0):=b2
 obtain ⟨cb,hcb⟩:∃ cb,cb=wa.heap.size:=⟨_,rfl⟩
 rw [←hcb] at b2 ⊢
 have HB:=hid (And.intro b2 (And.intro k2 (And.intro hcb hrb)))
 clear b2 k2 hcb hrb
 go_wp2_with fail
 go_loopw [4] (fun iv wr=>∃ c:Nat,c≤10∧iv=.int .i64 c∧Wb wr cb (x,ngZ c)∧Kp [cb] w2 wr) (fun iv _=>10 - (intOf iv).toNat)
 case atStart=>exact ⟨0,by omega,rfl,HB.out.1.congr (fun s _=>by simp [ngZ]),Kp.refl _ _⟩
 case round=>
  obtain ⟨c,hc9,rfl,sc,kc⟩:=hrel
  by_cases hlt:c < 10
  ·obtain ⟨g1,g2,g3,g4⟩:=sc.get hlt
   have hc1:IntKind.i64.wrap ((c:Int)+1)=((c+1:Nat):Int):=wrap_i64_succ c (c+1) rfl (by omega)
   have hcJ:(c:Int)≤9:=by omega
   have hcI:(c:Int) < 10:=by omega
   have hc0:(0:Int)≤c:=by omega
   have s2:=((sc.from_ hlt (-1)).to_ hlt (-1)).congr (z':=ngZ (c+1)) (fun s _=>ng_step c s)
   have H2:=hid (And.intro s2 (And.intro (kc.trans ((Kp.setCell (S:=[cb]) wr (p:=⟨cb,1+c,none⟩) (.int .i64 (-1)) (by simp)).trans (Kp.setCell (S:=[cb]) _ (p:=⟨cb,11+c,none⟩) (.int .i64 (-1)) (by simp)))) hlt))
   clear s2 sc kc hlt
   go_wp2_with fail
   go_roundw
   ·exact ⟨c+1,by have:=H2.out.2.2;omega,by go_num,H2.out.1,H2.out.2.1⟩
   ·have:=H2.out.2.2
    simp [intOf];omega
  ·have q1:¬ (c:Int)≤9:=by omega
   have c10:c=10:=by omega
   obtain ⟨HB1,HB2,HB3,HB4⟩:=HB.out
   have RG:=hid (sc.congr (z':=neg) (fun s hs=>by rw [c10];unfold ngZ neg;rw [if_pos (by omega)])).range
   have hs1:w.heap.size < wa.heap.size:=by have:=R1.out.1.lt;omega
   have kk:Kp [cb] wa wr:=(HB2.mono (by simp)).trans kc
   have RB:=hid (R1.out.1.keep kk (by simp;omega))
   have fin:∀ w3,Kp [rb] wr w3→Kp [] w w3:=fun w3 k3=>(((R1.out.2.mono (T:=[cb,rb]) (by simp)).trans (kk.mono (by simp))).trans (k3.mono (by simp))).news (fun y hy=>by
    have:y=cb∨y=rb:=by simpa using hy
    omega)
   have HF:=hid fin
   clear sc kc hlt c10 HB1 HB2 HB3 HB4 hs1 kk fin R1 HB
   go_wp2_with (first | (refine wpList_load_mid rfl 197 (.tmp 3) rfl cb 0 rfl (wyC (x,neg)) _ RG.out Tryz.underlying197 rfl (by rw [wyC_len];exact Tryz.szWayR) ?_) | (refine storeBl rfl 197 (.tmp 2) (.tmp 17) rfl rfl rfl RB.out (by rw [wyC_len];rfl) (by rw [wyC_len];exact Tryz.szWayR) (wyC_one _) ?_;intro w3 b3 k3) | fail)
   refine bodyPost_ret (res_row (p:=2) (ty:=197) (by rw [Tryz.results118]) _ _ rb 0 rfl _ _ b3.range Tryz.underlying197 rfl (by rw [wyC_len];exact Tryz.szWayR)) rfl ⟨rfl,HF.out _ k3⟩
def mxZ (x r:Zt) (c:Nat):Zt:=fun s=>if s / 2 < c then mix x r s else x s
theorem mx_yes {x r:Zt} {c:Nat} (h:0≤r (2 * c)) (s:Nat):nu (nu (mxZ x r c) (2 * c) (r (2 * c))) (2 * c+1) (r (2 * c+1)) s=mxZ x r (c+1) s:=by
 unfold nu mxZ mix
 by_cases h1:s=2 * c+1
 ·rw [if_pos h1,if_pos (by omega),if_pos (by rw [show s / 2=c by omega];exact h),h1]
 ·rw [if_neg h1]
  by_cases h2:s=2 * c
  ·rw [if_pos h2,if_pos (by omega),if_pos (by rw [show s / 2=c by omega];exact h),h2]
  ·rw [if_neg h2]
   by_cases h3:s / 2 < c
   ·rw [if_pos h3,if_pos (show s / 2 < c+1 by omega)]
   ·rw [if_neg h3,if_neg (show ¬ s / 2 < c+1 by omega)]
theorem mx_no {x r:Zt} {c:Nat} (h:¬ 0≤r (2 * c)) (s:Nat):mxZ x r c s=mxZ x r (c+1) s:=by
 unfold mxZ mix
 by_cases h3:s / 2 < c
 ·rw [if_pos h3,if_pos (show s / 2 < c+1 by omega)]
 ·rw [if_neg h3]
  by_cases h4:s / 2 < c+1
  ·rw [if_pos h4,if_neg (by rw [show s / 2=c by omega];exact h)]
  ·rw [if_neg h4]
theorem then_any {p r:Nat×Zt}:Calls Tryz.prog 168 #[.agg (wyC p).toArray,.agg (wyC r).toArray] w fun e w'=>e=.returned (.agg (wyC (r.1,mix p.2 r.2)).toArray)∧Kp [] w w':=by
 obtain ⟨cp,hcp⟩:∃ cp,cp=wyC p:=⟨_,rfl⟩
 obtain ⟨cr,hcr⟩:∃ cr,cr=wyC r:=⟨_,rfl⟩
 rw [←hcp,←hcr]
 obtain ⟨w1,hw1⟩:∃ w1,w1=w.alloc (.cells cp.toArray 197):=⟨_,rfl⟩
 obtain ⟨w2,hw2⟩:∃ w2,w2=w1.alloc (.cells cr.toArray 197):=⟨_,rfl⟩
 obtain ⟨w3,hw3⟩:∃ w3,w3=w2.alloc (.cells zW 197):=⟨_,rfl⟩
 obtain ⟨pa,hpa⟩:∃ x,x=w.heap.size:=⟨_,rfl⟩
 obtain ⟨pb,hpb⟩:∃ x,x=pa+1:=⟨_,rfl⟩
 obtain ⟨rb,hrb⟩:∃ x,x=pb+1:=⟨_,rfl⟩
 have s1:w1.heap.size=pb:=by rw [hw1,hpb,hpa];simp
 have s2:w2.heap.size=rb:=by rw [hw2,hrb,←s1];simp
 have k1:Kp [] w w1:=by rw [hw1];exact Kp.alloc _ _ _
 have k2:Kp [] w1 w2:=by rw [hw2];exact Kp.alloc _ _ _
 have k3:Kp [] w2 w3:=by rw [hw3];exact Kp.alloc _ _ _
 have A1:Wb w1 pa p:=by rw [hw1,hcp,hpa];exact Bl.alloc _ _ _
 have B2:Wb w2 pb r:=by rw [hw2,hcr,←s1];exact Bl.alloc _ _ _
 have R3:Bl w3 rb zW.toList:=by rw [hw3,←s2];exact Bl.alloc w2 zW.toList _
 have A3:=(A1.keep k2 (by simp)).keep k3 (by simp)
 have B3:=B2.keep k3 (by simp)
 have H3:=hid (And.intro A3 (And.intro B3 (And.intro R3 (k1.trans (k2.trans k3)))))
 have HH:=hid (And.intro hcp hcr)
 clear A1 B2 R3 A3 B3 k1 k2 k3 s1 s2 hcp hcr
 go_enter Tryz.func168,Tryz.ntmps168
 go_upto_region 1 with fail
 change Code.wp _ _ _ _ (((w.alloc (.cells cp.toArray 197)).alloc (.cells cr.toArray 197)).alloc (.cells zW 197))
 rw [←hw1,←hw2,←hw3,←hpa,←hpb,←hrb]
 have hne:pa≠pb:=by omega
 have HN:=hid (And.intro hpa (And.intro hpb hrb))
 clear hw1 hw2 hw3 hpa hpb hrb
 clear w1 w2
 go_wp2_with fail
 go_loopw [5] (fun iv wr=>∃ c:Nat,c≤10∧iv=.int .i64 c∧Wb wr pa (p.1,mxZ p.2 r.2 c)∧Kp [pa] w3 wr) (fun iv _=>10 - (intOf iv).toNat)
 case atStart=>exact ⟨0,by omega,rfl,Wb.congr (e:=p.1) (z:=p.2) H3.out.1 (fun s _=>by simp [mxZ]),Kp.refl _ _⟩
 case round=>
  obtain ⟨c,hc9,rfl,sc,kc⟩:=hrel
  have Bc:=H3.out.2.1.keep kc (by simp;omega)
  by_cases hlt:c < 10
  ·obtain ⟨g1,g2,g3,g4⟩:=sc.get hlt
   obtain ⟨d1,_,d3,_⟩:=Wb.get Bc hlt
   have hc1:IntKind.i64.wrap ((c:Int)+1)=((c+1:Nat):Int):=wrap_i64_succ c (c+1) rfl (by omega)
   have hcJ:(c:Int)≤9:=by omega
   have hcI:(c:Int) < 10:=by omega
   have hc0:(0:Int)≤c:=by omega
   obtain ⟨za,hza⟩:∃ z,r.2 (2 * c)=z:=⟨_,rfl⟩
   obtain ⟨zb,hzb⟩:∃ z,r.2 (2 * c+1)=z:=⟨_,rfl⟩
   rw [hza] at d1
   rw [hzb] at d3
   by_cases h0:0≤za
   ·have s2:=((sc.from_ hlt za).to_ hlt zb).congr (z':=mxZ p.2 r.2 (c+1)) (fun s _=>by rw [←hza,←hzb];exact mx_yes (by rw [hza];exact h0) s)
    have H2:=hid (And.intro s2 (And.intro (kc.trans ((Kp.setCell (S:=[pa]) wr (p:=⟨pa,1+c,none⟩) (.int .i64 za) (by simp)).trans (Kp.setCell (S:=[pa]) _ (p:=⟨pa,11+c,none⟩) (.int .i64 zb) (by simp)))) hlt))
    clear s2 sc kc hlt Bc hza hzb
    go_wp2_with fail
    go_roundw
    ·exact ⟨c+1,by have:=H2.out.2.2;omega,by go_num,H2.out.1,H2.out.2.1⟩
    ·have:=H2.out.2.2
     simp [intOf];omega
   ·have s2:=sc.congr (z':=mxZ p.2 r.2 (c+1)) (fun s _=>mx_no (by rw [hza];exact h0) s)
    have H2:=hid (And.intro s2 (And.intro kc hlt))
    clear s2 sc kc hlt Bc hza hzb
    go_wp2_with fail
    go_roundw
    ·exact ⟨c+1,by have:=H2.out.2.2;omega,by go_num,H2.out.1,H2.out.2.1⟩
    ·have:=H2.out.2.2
     simp [intOf];omega
  ·have q1:¬ (c:Int)≤9:=by omega
   have c10:c=10:=by omega
   have sc10:=sc.congr (z':=mix p.2 r.2) (fun s hs=>by rw [c10];unfold mxZ;rw [if_pos (by omega)])
   have e0:=sc10.at_ 0 _ rfl
   have f0:=sc10.free 0
   have d0:=Bc.at_ 0 _ rfl
   have RG:=hid (sc10.end_ r.1).range
   obtain ⟨_,_,R3,kw⟩:=H3.out
   have hne2:rb≠pa:=by have:=HN.out;omega
   have kk:Kp [pa] w3 (wr.setCell ⟨pa,0,none⟩ (.int .i64 (r.1:Nat))):=kc.trans (Kp.setCell (S:=[pa]) wr (p:=⟨pa,0,none⟩) _ (by simp))
   have RB:=hid (R3.keep kk (by simpa using hne2))
   have fin:∀ w4,Kp [rb] (wr.setCell ⟨pa,0,none⟩ (.int .i64 (r.1:Nat))) w4→Kp [] w w4:=fun w4 k4=>(((kw.mono (T:=[pa,rb]) (by simp)).trans (kk.mono (by simp))).trans (k4.mono (by simp))).news (fun y hy=>by
    have:y=pa∨y=rb:=by simpa using hy
    have:=HN.out
    omega)
   have HF:=hid fin
   clear sc kc hlt c10 sc10 kk fin H3 Bc R3 kw
   go_wp2_with (first | (refine wpList_load_mid rfl 197 (.tmp 2) rfl pa 0 rfl (wyC (r.1,mix p.2 r.2)) _ RG.out Tryz.underlying197 rfl (by rw [wyC_len];exact Tryz.szWayR) ?_) | (refine storeBl rfl 197 (.tmp 4) (.tmp 32) rfl rfl rfl RB.out (by rw [wyC_len];rfl) (by rw [wyC_len];exact Tryz.szWayR) (wyC_one _) ?_;intro w4 b4 k4) | fail)
   refine bodyPost_ret (res_row (p:=4) (ty:=197) (by rw [Tryz.results168]) _ _ rb 0 rfl _ _ b4.range Tryz.underlying197 rfl (by rw [wyC_len];exact Tryz.szWayR)) rfl ⟨rfl,HF.out _ k4⟩
end
section
variable {w w' w1:World}
theorem Ow.form {B:Nat} {lv:Value} {l:List (Nat×Zt)} (h:Ow w B lv l):∃ a c,lv=.slice a l.length c:=by
 rcases h.2 with ⟨q1,q2⟩ | ⟨gb,c,cur,q1,_⟩
 ·exact ⟨none,0,by rw [q1,q2]⟩
 ·exact ⟨_,c,q1⟩
theorem Ow.keep {B:Nat} {S:List Nat} {lv:Value} {l:List (Nat×Zt)} (h:Ow w B lv l) (k:Kp S w w') (hS:∀ g,lv.ownBlock=some g→g∉S):Ow w' B lv l:=own_kp h k hS
theorem way_parts:∃ i z,Tryz.prog.info? 197=some i∧i.zero=some z∧i.size=21∧i.bytes=168∧z.cells.size=21:=by
 have h:(Tryz.prog.info? 197).map (fun i=>(i.size,i.bytes,i.zero.map (·.cells.size)))=some (21,168,some 21):=by kernel_rfl
 cases e:Tryz.prog.info? 197 with
 | none=>rw [e] at h;cases h
 | some i=>
  rw [e] at h
  simp only [Option.map_some,Option.some.injEq,Prod.mk.injEq] at h
  obtain ⟨h1,h2,h3⟩:=h
  cases ez:i.zero with
  | none=>rw [ez] at h3;cases h3
  | some z=>
   rw [ez] at h3
   exact ⟨i,z,rfl,ez,h1,h2,Option.some.inj h3⟩
theorem wpList_one {P:Program} {ops:Array Oper} {rest:List Oper} {o:Oper} {a:Act} {Q:Exit→Act→World→Prop} (hg:o.guard=none) (t e:TypeId) (x:Operand) (ho:o.op=.buildSlice t 1 #[(0,x)])
  (cv:List Value) (ie:TypeInfo) (z:Value) (n:Nat) (hx:a.eval x=.agg cv.toArray) (hu:P.underlying t=some (.slice e)) (hie:P.info? e=some ie) (hz:ie.zero=some z) (hn:ie.size=n) (hzs:z.cells.size=n) (hl:cv.length=n) (h0:0 < n) (h24:n≤1000)
  (h:wpList P ops Q rest (a.put o.dst (.slice (some ⟨w.heap.size,0,none⟩) 1 1)) (w.alloc (.cells cv.toArray e))):wpList P ops Q (o::rest) a w:=by
 refine wpList_buildSlice hg t e 1 _ ho cv.toArray ie z hu hie hz (by rw [hn];omega) (by rw [hn];omega) ?_ h
 simp only [List.map_toArray,List.map_cons,List.map_nil,hx,hn]
 exact fill_one hl (by simp)
theorem putT_in {l:List (Nat×Zt)} {p:Nat×Zt} {i:Nat} {r:Nat×Zt} (hi:l[i]? = some r) (he:r.1=p.1):putT l p=l:=by
 unfold putT
 rw [if_pos]
 rw [List.any_eq_true]
 exact ⟨r,List.mem_of_getElem? hi,by simp [he]⟩
theorem putT_new {l:List (Nat×Zt)} {p:Nat×Zt} (h:∀ (j:Nat) (r:Nat×Zt),l[j]? = some r→r.1≠p.1):putT l p=l++[p]:=by
 unfold putT
 rw [if_neg]
 rw [List.any_eq_true]
 rintro ⟨r,hr,e⟩
 obtain ⟨j,hj⟩:=List.getElem?_of_mem hr
 exact h j r hj (by simpa using e)
theorem put_any {B:Nat} {lv:Value} {l:List (Nat×Zt)} {p:Nat×Zt} (h:Ow w B lv l) (hB:B≤w.heap.size) (hl:l.length≤1000) :
  Calls Tryz.prog 121 #[lv,.agg (wyC p).toArray] w fun e w'=>∃ lv',e=.returned lv'∧Ow w' B lv' (putT l p)∧Kp lv.ownBlock.toList w w'∧∀ g,lv'.ownBlock=some g→lv.ownBlock=some g∨w.heap.size≤g:=by
 obtain ⟨i0,z,hi,hz0,hz1,hz2,hz3⟩:=way_parts
 have HI:=hid (And.intro hi (And.intro hz0 (And.intro hz1 (And.intro hz2 hz3))))
 clear hi hz0 hz1 hz2 hz3
 obtain ⟨cp,hcp⟩:∃ cp,cp=wyC p:=⟨_,rfl⟩
 rw [←hcp]
 obtain ⟨w1,hw1⟩:∃ w1,w1=w.alloc (.cells cp.toArray 197):=⟨_,rfl⟩
 obtain ⟨pb,hpb⟩:∃ x,x=w.heap.size:=⟨_,rfl⟩
 have k1:Kp [] w w1:=by rw [hw1];exact Kp.alloc _ _ _
 have A1:Wb w1 pb p:=by rw [hw1,hcp,hpb];exact Bl.alloc _ _ _
 have O1:Ow w1 B lv l:=h.keep k1 (by simp)
 obtain ⟨a,c,hlv⟩:=h.form
 have hown:=h.lt
 have H1:=hid (And.intro A1 (And.intro O1 (And.intro k1 (And.intro hcp (And.intro hlv hown)))))
 clear A1 O1 k1 hcp h hown
 subst hlv
 go_enter Tryz.func121,Tryz.ntmps121
 go_upto_region 1 with fail
 rw [←hw1,←hpb]
 have HP:=hid hpb
 clear hw1 hpb
 go_wp2_with fail
 go_loopw [5] (fun iv wr=>∃ i:Nat,i≤l.length∧iv=.int .i64 i∧Kp [] w1 wr∧Hid (∀ (j:Nat) (r:Nat×Zt),j < i→l[j]? = some r→r.1≠p.1)) (fun iv _=>2000 - (intOf iv).toNat)
 case atStart=>exact ⟨0,Nat.zero_le _,rfl,Kp.refl _ _,hid (fun j r hj=>by omega)⟩
 case round=>
  obtain ⟨i,hil,rfl,kr,hd⟩:=hrel
  by_cases hlt:i < l.length
  ·have hgi:l[i]? = some l[i]:=List.getElem?_eq_getElem hlt
   obtain ⟨gb,c2,e1,e2,_,e4⟩:=H1.out.2.1.lw.way hgi
   obtain ⟨rfl,_,rfl⟩:a=some ⟨gb,0,none⟩∧True∧c=c2:=by
    injection e1 with e1 _ e3;exact ⟨e1,trivial,e3⟩
   obtain ⟨y,hy⟩:∃ y,l[i]=y:=⟨_,rfl⟩
   rw [hy] at hgi e4
   have hb1:gb < w1.heap.size:=by
    have:=H1.out.2.1.lw
    rcases this with ⟨q,_⟩ | ⟨g',c',q,_,q3,_⟩
    ·cases q
    ·injection q with q _ _;injection q with q;injection q with q _ _;omega
   have d0:=(kr.cell (p:=⟨gb,i * 21,none⟩) hb1 (by simp)).trans (e4 0 _ (wyC_at y).1)
   have d1:=(H1.out.1.keep kr (by simp)).at_ 0 _ (wyC_at p).1
   have q0:(i:Int) < (l.length:Int):=by omega
   have q1:(0:Int)≤(i:Int):=by omega
   have hc1:IntKind.i64.wrap ((i:Int)+1)=((i+1:Nat):Int):=wrap_i64_succ i (i+1) rfl (by omega)
   have HD:=hid (And.intro hgi (And.intro kr hlt))
   clear hgi e4 hb1 hy kr
   by_cases he:y.1=p.1
   ·have qe:((y.1:Int) == (p.1:Int))=true:=by simp [he]
    go_wp2_with fail
    go_quiet (fail)
    go_wp2_with fail
    go_ret
    obtain ⟨A1,O1,k1,_,_,_⟩:=H1.out
    obtain ⟨hgi,kr,_⟩:=HD.out
    have kk:Kp [] w1 (wr.drewN nq):=kr.trans (Kp.drewN [] wr nq)
    exact ⟨_,rfl,by rw [putT_in hgi he];exact O1.keep kk (by simp),(k1.trans kk).mono (by simp),fun g hg=>.inl hg⟩
   ·have qe:((y.1:Int) == (p.1:Int))=false:=by rw [beq_eq_false_iff_ne];omega
    go_wp2_with fail
    go_quiet (fail)
    go_wp2_with fail
    go_roundw
    ·obtain ⟨hgi,kr,_⟩:=HD.out
     refine ⟨i+1,by omega,by go_num,kr.trans (Kp.drewN [] wr _),hid (fun j r hj hr=>?_)⟩
     by_cases e:j=i
     ·subst e
      rw [hgi] at hr
      cases hr
      exact he
     ·exact hd.out j r (by omega) hr
    ·simp [intOf];omega
  ·have q0:¬ (i:Int) < (l.length:Int):=by omega
   obtain ⟨A1,O1,k1,hcp,hlv,hown⟩:=H1.out
   have RG:=hid (A1.keep kr (by simp)).range
   have OW:=hid ((O1.keep kr (by simp)).keep (Kp.alloc [] wr (.cells (wyC p).toArray 197)) (by simp))
   have HS:Hid (B≤(wr.alloc (.cells (wyC p).toArray 197)).heap.size):=hid (Nat.le_trans hB (Nat.le_trans k1.size (Nat.le_trans kr.size (Kp.alloc [] wr _).size)))
   have hd2:putT l p=l++[p]:=putT_new (fun j r hr=>hd.out j r (by have:=(List.getElem?_eq_some_iff.1 hr).1;omega) hr)
   have HD:=hid (And.intro hd2 (And.intro kr k1))
   clear A1 O1 k1 hcp hlv hown hd2 hd kr hlt
   go_wp2_with (first | (refine wpList_load_mid rfl 197 (.tmp 3) rfl pb 0 rfl (wyC p) _ RG.out Tryz.underlying197 rfl (by rw [wyC_len];exact Tryz.szWayR) ?_) | (refine wpList_one rfl 194 197 (.tmp 22) rfl (wyC p) i0 z 21 rfl Tryz.underlying194 HI.out.1 HI.out.2.1 HI.out.2.2.1 HI.out.2.2.2.2 (wyC_len p) (by decide) (by decide) ?_) | (at_builtin;refine wpList_app rfl _ _ 194 rfl B 197 i0 z 21 168 Tryz.underlying194 HI.out.1 HI.out.2.1 HI.out.2.2.1 HI.out.2.2.2.1 HI.out.2.2.2.2 (by decide) (.slice a l.length c) l.length (flatW l) rfl OW.out ⟨wr.heap.size,0,none⟩ 1 1 (wyC p) rfl (by rw [wyC_len]) (fun j u hu=>by rw [Addr.add_mid,Nat.zero_add];exact (Bl.alloc wr (wyC p) 197).at_ j u hu) (wyC_one p) (by unfold maxLen;omega) (by omega) HS.out (by omega) ?_;intro gb cap w8 ho hgr hor))
   go_ret
   obtain ⟨hd2,kr,k1⟩:=HD.out
   have ka:=Kp.alloc [] wr (.cells (wyC p).toArray 197)
   refine ⟨_,rfl,?_,((k1.trans (kr.trans ka)).mono (by simp)).trans (kp_grownR hgr (by simp)),fun g hg=>?_⟩
   ·rw [hd2]
    show World.ownsRow _ _ _ _ _ (l++[p]).length (flatW (l++[p]))
    rw [List.length_append,flatW_snoc];exact ho
   ·have e:gb=g:=Option.some.inj hg
    subst e
    rcases hor with q1 | q1
    ·exact .inl q1
    ·exact .inr (Nat.le_trans k1.size (Nat.le_trans kr.size (Nat.le_trans ka.size q1)))
end
theorem frs_len {n:Nat}:∀ (l:List (Nat×Zt)) (D:List Nat),(∀ p∈l,p.1≤n)→(frs D l).length≤((List.range (n+1)).filter fun x=>decide (x∉D)).length
 | [],D,_=>Nat.zero_le _
 | p::l,D,h=>by
  rw [frs]
  split
  ·exact frs_len l D fun r hr=>h r (List.mem_cons_of_mem _ hr)
  ·rename_i hp
   have ih:=frs_len l (p.1::D) fun r hr=>h r (List.mem_cons_of_mem _ hr)
   have e:((List.range (n+1)).filter fun x=>decide (x∉p.1::D))=((List.range (n+1)).filter fun x=>decide (x∉D)).filter fun x=>decide (x≠p.1):=by
    rw [List.filter_filter]
    refine List.filter_congr fun x _=>?_
    rw [Bool.eq_iff_iff]
    simp
   have hlt:(((List.range (n+1)).filter fun x=>decide (x∉D)).filter fun x=>decide (x≠p.1)).length < ((List.range (n+1)).filter fun x=>decide (x∉D)).length:=by
    rw [List.length_filter_lt_length_iff_exists]
    exact ⟨p.1,List.mem_filter.2 ⟨List.mem_range.2 (by have:=h p (by simp);omega),by simpa using hp⟩,by simp⟩
   rw [e] at ih
   rw [List.length_cons]
   omega
theorem dd_len {n:Nat} {l:List (Nat×Zt)} (h:∀ p∈l,p.1≤n):(ddT l).length≤n+1:=
 Nat.le_trans (frs_len l [] h) (by simpa using List.length_filter_le _ (List.range (n+1)))
theorem put_dd (l:List (Nat×Zt)):l.foldl putT []=ddT l:=by rw [foldl_put];rfl
theorem dd_snoc (l:List (Nat×Zt)) (p:Nat×Zt):putT (ddT l) p=ddT (l++[p]):=by
 rw [←put_dd,←put_dd,List.foldl_append];rfl
abbrev bhW (U:Nat→List (Nat×Zt)) (l:List (Nat×Zt)):List (Nat×Zt):=l.flatMap fun p=>(U p.1).map fun r=>(r.1,mix p.2 r.2)
theorem take_snoc {α:Type} {l:List α} {i:Nat} {x:α} (h:l[i]? = some x):l.take (i+1)=l.take i++[x]:=by
 rw [List.take_add_one,h];rfl
section
variable {w w' w1:World}
structure Lu (W:World) (wr:World) (lv:Value) (l:List (Nat×Zt)):Prop where
 ow:Ow wr W.heap.size lv l
 kp:Kp [] W wr
theorem Lu.nil (W:World):Lu W W (.slice none 0 0) []:=⟨Ow.nil _ _,Kp.refl _ _⟩
theorem Lu.keep {W wr wx:World} {lv:Value} {l:List (Nat×Zt)} {S:List Nat} (h:Lu W wr lv l) (k:Kp S wr wx) (hS:∀ g∈S,W.heap.size≤g) (hl:∀ g,lv.ownBlock=some g→g∉S):Lu W wx lv l:=
 ⟨h.ow.keep k hl,((h.kp.mono (T:=S) (by simp)).trans k).news hS⟩
theorem Lu.put {W wr wx:World} {lv lv':Value} {l l':List (Nat×Zt)} (h:Lu W wr lv l) (o:Ow wx W.heap.size lv' l') (k:Kp lv.ownBlock.toList wr wx):Lu W wx lv' l':=
 ⟨o,((h.kp.mono (T:=lv.ownBlock.toList) (by simp)).trans k).news fun g hg=>(h.ow.lt g (by simpa using hg)).1⟩
theorem Lu.size {W wr:World} {lv:Value} {l:List (Nat×Zt)} (h:Lu W wr lv l):W.heap.size≤wr.heap.size:=h.kp.size
theorem behind_any {m n a:Nat} {av bv:Value} {A U:Nat→List (Nat×Zt)} (hA:Tw w m av n A) (hU:Tw w m bv n U) (hm:m≤w.heap.size) (hn:n≤900) (ha:a≤n) (hlA:(A a).length≤1000) (hA1:∀ p∈A a,p.1≤n) (hU1:∀ b,b≤n→(U b).length≤1000∧∀ p∈U b,p.1≤n) :
  Calls Tryz.prog 120 #[av,bv,.int .i64 (a:Nat),.slice none 0 0] w fun e w'=>∃ lv,e=.returned lv∧Lu w w' lv (ddT (bhW U (A a))):=by
 obtain ⟨ta,ca,rfl,hca,hta,hAc⟩:=hA
 obtain ⟨tb,cb,rfl,hcb,htb,hUc⟩:=hU
 obtain ⟨la,hla,hLa⟩:=hAc a ha
 have HU:=hid (And.intro hUc hU1)
 have HL:=hid (And.intro hLa (And.intro hla hA1))
 obtain ⟨LA,hLA⟩:∃ L,A a=L:=⟨_,rfl⟩
 rw [hLA] at hlA
 obtain ⟨aa,ac,hform⟩:∃ aa ac,la=.slice aa LA.length ac:=by
  rw [hLA] at hLa
  rcases hLa with ⟨q1,q2⟩ | ⟨gb,c,q1,_⟩
  ·exact ⟨none,0,by rw [q1,q2];rfl⟩
  ·exact ⟨_,c,q1⟩
 subst hform
 have HLA:=hid hLA
 clear hAc hUc hU1 hLa hla hA1 hLA
 have q0:(a:Int) < ((n+1:Nat):Int):=by omega
 have q00:(0:Int)≤(a:Int):=by omega
 go_enter Tryz.func120,Tryz.ntmps120
 go_wp2_with fail
 go_loopw [3,9] (fun lvv iv wr=>∃ i:Nat,i≤LA.length∧iv=.int .i64 i∧Lu w wr lvv (ddT (bhW U (LA.take i)))) (fun _ iv _=>2000 - (intOf iv).toNat)
 case atStart=>exact ⟨0,Nat.zero_le _,rfl,Lu.nil w⟩
 case round=>
  obtain ⟨i,hil,rfl,hu⟩:=hrel
  have d0:=(hu.kp.cell (p:=⟨ta,a,none⟩) (by show ta < _;omega) (by simp)).trans HL.out.2.1
  by_cases hlt:i < LA.length
  ·have hgi:LA[i]? = some LA[i]:=List.getElem?_eq_getElem hlt
   obtain ⟨p,hp⟩:∃ p,LA[i]=p:=⟨_,rfl⟩
   rw [hp] at hgi
   obtain ⟨gb,c2,e1,e2,_,e4⟩:=(HL.out.1.keep (m':=m) hu.kp hm (by simp) (Nat.le_refl _)).way (by rw [HLA.out];exact hgi)
   obtain ⟨rfl,_,rfl⟩:aa=some ⟨gb,0,none⟩∧True∧ac=c2:=by
    rw [HLA.out] at e1
    injection e1 with e1 _ e3;exact ⟨e1,trivial,e3⟩
   have q1:(i:Int) < (LA.length:Int):=by omega
   have q2:(0:Int)≤(i:Int):=by omega
   have hc1:IntKind.i64.wrap ((i:Int)+1)=((i+1:Nat):Int):=wrap_i64_succ i (i+1) rfl (by omega)
   have RG:=hid e4
   have HG:=hid (And.intro hgi hu)
   clear e1 e2 e4 hp
   go_upto_region 5 with (first | (refine wpList_load_mid rfl 197 (.tmp 26) rfl gb (i * 21) rfl (wyC p) _ RG.out Tryz.underlying197 rfl (by rw [wyC_len];exact Tryz.szWayR) ?_) | (refine newVarR (w1:=wr) rfl 197 (.tmp 10) (.tmp 27) rfl _ _ _ rfl rfl (by rw [wyC_len];rfl) (by rw [wyC_len];exact Tryz.szWayR) (wyC_one p) ?_;intro w2 b2 k2))
   have b2:Wb w2 wr.heap.size p:=b2
   obtain ⟨vb,hvb⟩:∃ vb,vb=wr.heap.size:=⟨_,rfl⟩
   rw [←hvb] at b2 ⊢
   obtain ⟨hgi,hu⟩:=HG.out
   have hp1:p.1≤n:=HL.out.2.2 p (by rw [HLA.out];exact List.mem_of_getElem? hgi)
   obtain ⟨lb,hlb,hLb⟩:=HU.out.1 p.1 hp1
   obtain ⟨hlB,hB1⟩:=HU.out.2 p.1 hp1
   obtain ⟨LB,hLB⟩:∃ L,U p.1=L:=⟨_,rfl⟩
   rw [hLB] at hLb hlB hB1
   obtain ⟨ba,bc,hform⟩:∃ ba bc,lb=.slice ba LB.length bc:=by
    rcases hLb with ⟨z1,z2⟩ | ⟨gb,c,z1,_⟩
    ·exact ⟨none,0,by rw [z1,z2];rfl⟩
    ·exact ⟨_,c,z1⟩
   subst hform
   have hvl:∀ g,u3.ownBlock=some g→g≠vb:=fun g hg=>by have:=(hu.ow.lt g hg).2;omega
   have hvw:w.heap.size≤vb:=by have:=hu.size;omega
   have hu2:=hu.keep k2 (by simp) (by simp)
   have HB:=hid (And.intro hlb (And.intro hLb (And.intro hB1 (And.intro hLB (And.intro hu2 (And.intro b2 (And.intro hvl hvw)))))))
   have HQ:Hid (∀ k,∀ y∈bhW U (LA.take i)++(LB.take k).map fun r=>(r.1,mix p.2 r.2),y.1≤n):=hid (by
    intro k y hy
    rcases List.mem_append.1 hy with hy | hy
    ·obtain ⟨t,ht,hy⟩:=List.mem_flatMap.1 hy
     obtain ⟨r,hr,rfl⟩:=List.mem_map.1 hy
     exact (HU.out.2 t.1 (HL.out.2.2 t (by rw [HLA.out];exact List.mem_of_mem_take ht))).2 r hr
    ·obtain ⟨r,hr,rfl⟩:=List.mem_map.1 hy
     exact hB1 r (List.mem_of_mem_take hr))
   have q3:(p.1:Int) < ((n+1:Nat):Int):=by omega
   have q3b:(p.1:Int) < (n:Int)+1:=by omega
   have q4:(0:Int)≤(p.1:Int):=by omega
   clear hlb hLb hB1 hLB hu2 b2 k2 hvb hu d0 hvl hvw HG
   go_wp2_with fail
   go_loopw [3,11] (fun lv2 kv wr2=>∃ k:Nat,k≤LB.length∧kv=.int .i64 k∧Lu w wr2 lv2 (ddT (bhW U (LA.take i)++(LB.take k).map fun r=>(r.1,mix p.2 r.2)))∧Wb wr2 vb p∧(∀ g,lv2.ownBlock=some g→g≠vb)) (fun _ kv _=>2000 - (intOf kv).toNat)
   case atStart=>exact ⟨0,Nat.zero_le _,rfl,by simpa using HB.out.2.2.2.2.1,HB.out.2.2.2.2.2.1,HB.out.2.2.2.2.2.2.1⟩
   case round=>
    obtain ⟨k,hkl,rfl,hu2,b3,hvl⟩:=hrel
    have s3:=(hu2.kp.cell (p:=⟨tb,p.1,none⟩) (by show tb < _;omega) (by simp)).trans HB.out.1
    have s2:=b3.at_ 0 _ (wyC_at p).1
    by_cases hkt:k < LB.length
    ·have hgk:LB[k]? = some LB[k]:=List.getElem?_eq_getElem hkt
     obtain ⟨r,hr⟩:∃ r,LB[k]=r:=⟨_,rfl⟩
     rw [hr] at hgk
     obtain ⟨gc,c3,z1,z2,_,s4⟩:=(HB.out.2.1.keep (m':=m) hu2.kp hm (by simp) (Nat.le_refl _)).way hgk
     obtain ⟨rfl,_,rfl⟩:ba=some ⟨gc,0,none⟩∧True∧bc=c3:=by
      injection z1 with z1 _ z3;exact ⟨z1,trivial,z3⟩
     have q5:(k:Int) < (LB.length:Int):=by omega
     have q6:(0:Int)≤(k:Int):=by omega
     have hk1:IntKind.i64.wrap ((k:Int)+1)=((k+1:Nat):Int):=wrap_i64_succ k (k+1) rfl (by omega)
     have s1:=b3.range
     have HC:Hid (gc < w.heap.size):=hid (by
      rcases HB.out.2.1 with ⟨y1,_⟩ | ⟨g',c',y1,_,y3,_⟩
      ·cases y1
      ·injection y1 with y1 _ _;injection y1 with y1;injection y1 with y1 _ _;omega)
     have HK:=hid (And.intro hgk (And.intro hu2 (And.intro b3 hvl)))
     clear hgk hu2 b3 hvl z1 z2 hr
     go_upto_region 8 with fail
     have hS:(fun w':World=>w'.rangeAt vb 0 (wyC p)∧w'.cell? ⟨vb,0,none⟩=some (.int .i64 (p.1:Nat))∧w'.cell? ⟨tb,p.1,none⟩=some (.slice (some ⟨gc,0,none⟩) LB.length bc)∧w'.rangeAt gc (k * 21) (wyC r)) wr.drew:=⟨s1,s2,s3,s4⟩
     refine wp_region_T (fun w'=>w'.rangeAt vb 0 (wyC p)∧w'.cell? ⟨vb,0,none⟩=some (.int .i64 (p.1:Nat))∧w'.cell? ⟨tb,p.1,none⟩=some (.slice (some ⟨gc,0,none⟩) LB.length bc)∧w'.rangeAt gc (k * 21) (wyC r)) 12 (by kernel_rfl) ?_
     refine tk1 0 (v:=?_) rfl (by kernel_rfl) (fun _ _ _ h=>h) ⟨rfl,fun w hSw=>?_⟩ hS ?_;rotate_left;· ((try dsimp only at hSw);go_simp;(try with_reducible rfl))
     (try simp only [List.getElem_toArray,List.getElem_cons_succ,List.getElem_cons_zero,Act.put,List.setIfInBounds_toArray,List.set_cons_zero,List.set_cons_succ])
     refine' wpAnyT_take (i:=1) (v:=_) rfl (by kernel_rfl) (by kernel_rfl) (by kernel_rfl) (by kernel_rfl) (fun _ _ _ h=>h) (yieldsIf_load_mid (by rfl) _ _ rfl _ _ rfl (wyC p) _ ?hS1 ?hu1 ?hd1 ?hi1) hS ?r1
     case hS1=>(intro w hw;exact hw.1)
     case hu1=>exact Tryz.underlying197
     case hd1=>rfl
     case hi1=>exact (by rw [wyC_len];exact Tryz.szWayR)
     simp only [List.getElem_toArray,List.getElem_cons_succ,List.getElem_cons_zero,Act.put,List.setIfInBounds_toArray,List.set_cons_zero,List.set_cons_succ]
     refine tk1 2 (v:=?_) rfl (by kernel_rfl) (fun _ _ _ h=>h) ⟨rfl,fun w hSw=>?_⟩ hS ?_;rotate_left;· ((try dsimp only at hSw);go_simp;(try with_reducible rfl))
     (try simp only [List.getElem_toArray,List.getElem_cons_succ,List.getElem_cons_zero,Act.put,List.setIfInBounds_toArray,List.set_cons_zero,List.set_cons_succ])
     refine tk1 3 (v:=?_) rfl (by kernel_rfl) (fun _ _ _ h=>h) ⟨rfl,fun w hSw=>?_⟩ hS ?_;rotate_left;· ((try dsimp only at hSw);go_simp;(try with_reducible rfl))
     (try simp only [List.getElem_toArray,List.getElem_cons_succ,List.getElem_cons_zero,Act.put,List.setIfInBounds_toArray,List.set_cons_zero,List.set_cons_succ])
     refine tk1 4 (v:=?_) rfl (by kernel_rfl) (fun _ _ _ h=>h) ⟨rfl,fun w hSw=>?_⟩ hS ?_;rotate_left;· ((try dsimp only at hSw);go_simp;(try with_reducible rfl))
     (try simp only [List.getElem_toArray,List.getElem_cons_succ,List.getElem_cons_zero,Act.put,List.setIfInBounds_toArray,List.set_cons_zero,List.set_cons_succ])
     refine tk1 5 (v:=?_) rfl (by kernel_rfl) (fun _ _ _ h=>h) ⟨rfl,fun w hSw=>?_⟩ hS ?_;rotate_left;· ((try dsimp only at hSw);go_simp;(try with_reducible rfl))
     (try simp only [List.getElem_toArray,List.getElem_cons_succ,List.getElem_cons_zero,Act.put,List.setIfInBounds_toArray,List.set_cons_zero,List.set_cons_succ])
     refine tk1 6 (v:=?_) rfl (by kernel_rfl) (fun _ _ _ h=>h) ⟨rfl,fun w hSw=>?_⟩ hS ?_;rotate_left;· ((try dsimp only at hSw);go_simp;(try with_reducible rfl))
     (try simp only [List.getElem_toArray,List.getElem_cons_succ,List.getElem_cons_zero,Act.put,List.setIfInBounds_toArray,List.set_cons_zero,List.set_cons_succ])
     refine tk1 7 (v:=?_) rfl (by kernel_rfl) (fun _ _ _ h=>h) ⟨rfl,fun w hSw=>?_⟩ hS ?_;rotate_left;· ((try dsimp only at hSw);go_simp;(try with_reducible rfl))
     (try simp only [List.getElem_toArray,List.getElem_cons_succ,List.getElem_cons_zero,Act.put,List.setIfInBounds_toArray,List.set_cons_zero,List.set_cons_succ])
     refine tk1 8 (v:=?_) rfl (by kernel_rfl) (fun _ _ _ h=>h) ⟨rfl,fun w hSw=>?_⟩ hS ?_;rotate_left;· ((try dsimp only at hSw);go_simp;(try with_reducible rfl))
     (try simp only [List.getElem_toArray,List.getElem_cons_succ,List.getElem_cons_zero,Act.put,List.setIfInBounds_toArray,List.set_cons_zero,List.set_cons_succ])
     refine' wpAnyT_take (i:=9) (v:=_) rfl (by kernel_rfl) (by kernel_rfl) (by kernel_rfl) (by kernel_rfl) (fun _ _ _ h=>h) (yieldsIf_load_mid (by rfl) _ _ rfl _ _ rfl (wyC r) _ ?hS9 ?hu9 ?hd9 ?hi9) hS ?r9
     case hS9=>(intro w hw;exact hw.2.2.2)
     case hu9=>exact Tryz.underlying197
     case hd9=>rfl
     case hi9=>exact (by rw [wyC_len];exact Tryz.szWayR)
     simp only [List.getElem_toArray,List.getElem_cons_succ,List.getElem_cons_zero,Act.put,List.setIfInBounds_toArray,List.set_cons_zero,List.set_cons_succ]
     refine wpAnyT_one (i:=10) (by kernel_rfl) rfl (fun K hK=>?_)
     go_simp
     refine (then_any (p:=p) (r:=r)).mono ?_
     rintro e w5 ⟨rfl,k5⟩
     obtain ⟨hgk,hu2,b3,hvl⟩:=HK.out
     have kd:Kp [] wr w5:=(Kp.drew [] wr).trans k5
     have hS5:(fun w':World=>w'.rangeAt vb 0 (wyC p)∧w'.cell? ⟨vb,0,none⟩=some (.int .i64 (p.1:Nat))∧w'.cell? ⟨tb,p.1,none⟩=some (.slice (some ⟨gc,0,none⟩) LB.length bc)∧w'.rangeAt gc (k * 21) (wyC r)) w5:=⟨rangeAt_keep s1 kd (by simp),(kd.cell (World.block_lt_of_cell? _ _ s2) (by simp)).trans s2,(kd.cell (World.block_lt_of_cell? _ _ s3) (by simp)).trans s3,rangeAt_keep s4 kd (by simp)⟩
     have u5:=hu2.keep kd (by simp) (by simp)
     have hb5:=b3.keep kd (by simp)
     refine hK.out _ _ (.inr hS5) ?_
     clear hK K hS s1 s2 s3 s4
     refine wpAnyT_one (i:=11) (by kernel_rfl) rfl (fun K hK=>?_)
     go_simp
     have hlen:(ddT (bhW U (LA.take i)++(LB.take k).map fun r=>(r.1,mix p.2 r.2))).length≤1000:=Nat.le_trans (dd_len (n:=n) (HQ.out k)) (by omega)
     refine (put_any (p:=(r.1,mix p.2 r.2)) u5.ow u5.size hlen).mono ?_
     rintro e w6 ⟨lv',rfl,o6,k6,n6⟩
     have hn6:∀ x,u3.ownBlock=some x→w.heap.size≤x∧x < w5.heap.size:=fun x hx=>u5.ow.lt x hx
     have hS6:(fun w':World=>w'.rangeAt vb 0 (wyC p)∧w'.cell? ⟨vb,0,none⟩=some (.int .i64 (p.1:Nat))∧w'.cell? ⟨tb,p.1,none⟩=some (.slice (some ⟨gc,0,none⟩) LB.length bc)∧w'.rangeAt gc (k * 21) (wyC r)) w6:=by
      have n1:vb∉u3.ownBlock.toList:=fun hx=>hvl vb (by simpa using hx) rfl
      have n2:tb∉u3.ownBlock.toList:=fun hx=>by have:=(hn6 tb (by simpa using hx)).1;omega
      have n3:gc∉u3.ownBlock.toList:=fun hx=>by have:=(hn6 gc (by simpa using hx)).1;have:=HC.out;omega
      exact ⟨rangeAt_keep hS5.1 k6 n1,(k6.cell (World.block_lt_of_cell? _ _ hS5.2.1) n1).trans hS5.2.1,(k6.cell (World.block_lt_of_cell? _ _ hS5.2.2.1) n2).trans hS5.2.2.1,rangeAt_keep hS5.2.2.2 k6 n3⟩
     refine hK.out _ _ (.inr hS6) ?_
     clear hK K
     have hb6:=hb5.keep k6 (fun hx=>hvl vb (by simpa using hx) rfl)
     have u6:=u5.put o6 k6
     have hv6:∀ g,lv'.ownBlock=some g→g≠vb:=fun g hg e=>by
      rcases n6 g hg with z | z
      ·exact hvl g z e
      ·have:=hb5.lt;omega
     have H6:=hid (And.intro u6 (And.intro hb6 hv6))
     clear o6 k6 n6 hS6 hS5 hb6 u6 hv6 u5 hb5 kd k5 hu2 b3 hvl hn6
     refine wpAnyT_one (i:=12) (by kernel_rfl) rfl (fun K hK=>?_)
     go_simp
     refine hK.out _ _ (.inl rfl) ?_
     clear hK K
     refine wpAnyT_done (by kernel_rfl) ?_ _
     go_wp2_with fail
     go_roundw
     ·obtain ⟨u6,hb6,hv6⟩:=H6.out
      refine ⟨k+1,by omega,by go_num,?_,hb6,hv6⟩
      rw [take_snoc hgk,List.map_append,←List.append_assoc]
      rw [dd_snoc] at u6
      exact u6
     ·simp [intOf];omega
    ·have q5:¬ (k:Int) < (LB.length:Int):=by omega
     have HK:=hid hu2
     clear hu2 b3
     go_wp2_with fail
     go_roundw
     ·refine ⟨i+1,by omega,by go_num,?_⟩
      have e:bhW U (LA.take (i+1))=bhW U (LA.take i)++(LB.take k).map fun r=>(r.1,mix p.2 r.2):=by
       have ek:LB.take k=LB:=List.take_of_length_le (by omega)
       rw [take_snoc hgi,ek,←HB.out.2.2.2.1]
       simp [bhW]
      rw [e]
      exact HK.out
     ·simp [intOf];omega
  ·have q1:¬ (i:Int) < (LA.length:Int):=by omega
   have HG:=hid hu
   clear hu
   go_wp2_with fail
   go_ret
   have e:LA.take i=A a:=by rw [HLA.out];exact List.take_of_length_le (by omega)
   rw [←e]
   exact ⟨_,rfl,HG.out⟩
end
