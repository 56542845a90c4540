import Derived.Test.YtnfglkdkmcocnaaGreatDoorR31
set_option maxRecDepth 100000
set_option maxHeartbeats 16000000
set_option linter.all false
namespace Go.Proofs.YtnfglkdkmcocnaaGreatDoor
open Go.RowKit
section
variable {w0 w w' w1:World} {B b q:Nat} {src:ByteArray} {k g:Nat} {bad:Int} {v v' v1:Value} {N:List Nw}
theorem steps_group {i d:Nat} {p:Nw} {ov:Value} {ss:List Sv} (hP:Ps w0 B b q src k g bad v N) (k0:Kp [] w0 w) (hi:N[i]? = some p) (hN:N.length≤1000) (o:Os w w0.heap.size ov ss) {j gn:Nat} {f:Fm} (hk:p.1.kind=4) (hgn:p.1.num=gn) (hg9:gn≤9) (hks:p.1.kids=[j]) (hKid:StC w0 q j f) (hll:ss.length+f.1+2≤100000) (hd:d+f.1+2≤100000) :
  Calls Tryz.prog 70 #[.pointer (some ⟨q,0,none⟩),ov,.int .i64 (i:Nat),.int .i64 (d:Nat)] w (StO w w0.heap.size ov ss (fGroup gn f.1 f.2 ss.length d)):=by
 have hPw:=hP.keep k0
 obtain ⟨gb,cg,hv,hlt,hcg,hcell⟩:=hPw.nodes hi
 obtain ⟨cn,hcn⟩:∃ cn,cn=ndC p.1 p.2:=⟨_,rfl⟩
 have hcl:cn.length=262:=by rw [hcn];exact ndC_len _ _
 have hc1:∀ u∈cn,u.oneCell'=true:=by rw [hcn];exact ndC_one _ (hPw.kd p (List.mem_of_getElem? hi)).one
 have RG:Hid (w.rangeAt gb (i * 262) cn):=hid (fun j u hu=>hcell j u (by rw [←hcl];exact (List.getElem?_eq_some_iff.1 hu).1) (by rw [←hcn];exact hu))
 have q0:=hPw.q0
 rw [hv] at q0
 have qi:(i:Int) < (N.length:Int):=by omega
 have qi0:(0:Int)≤(i:Int):=by omega
 have hA:=ndC_at p.1 p.2
 rw [←hcn] at hA
 obtain ⟨ka,kc,hkf,hkc⟩:=hP.kids hi
 rw [hkf] at hA
 have HA:=hid hA
 have HK:=hid hkc
 obtain ⟨xb,hxb⟩:∃ xb,xb=w.heap.size:=⟨_,rfl⟩
 obtain ⟨oa,oc,hof⟩:=o.form
 have HO:=hid (And.intro o (And.intro k0 (fun g (hg:ov.ownBlock=some g)=>o.lt g hg)))
 subst hof
 clear hkc hkf
 have HKid:=hid hKid
 clear hKid
 clear hcell hP hPw hi hv hA hcn o
 go_enter Tryz.func70,Tryz.ntmps70
 go_upto_region 2 with (first | (show wpList _ _ _ (⟨_,.load 192 _,_,_,_,_⟩::_) _ _;refine wpList_load_mid rfl 192 (.tmp 25) rfl gb (i * 262) rfl cn _ RG.out Tryz.underlying192 rfl (by rw [hcl];exact Tryz.szNodeR) ?_) | (show wpList _ _ _ (⟨_,.store 192 _ _,_,_,_,_⟩::_) _ _;refine newVarR (w1:=w) rfl 192 (.tmp 9) (.tmp 26) rfl Tryz.zeroCells192.toList 192 cn rfl rfl (by rw [hcl];kernel_rfl) (by rw [hcl];exact Tryz.szNodeR) hc1 ?_;intro wA bA kA))
 rw [←hxb] at bA ⊢
 have HX:Hid (Hx w0 w wA (.slice oa ss.length oc) xb cn):=hid ⟨bA,kA,HO.out.2.1,hxb,HO.out.2.2⟩
 have G0:=hid (HX.out.start HO.out.1)
 have c0:=bA.at_ 0 _ HA.out.1
 clear bA kA hxb RG q0 qi qi0
 rw [hk] at c0
 have hgn10:gn < 10:=by omega
 have dn:=HX.out.bl.at_ 257 _ HA.out.2.2.1
 rw [hgn] at dn
 obtain ⟨lx,hlx⟩:∃ lx,lx=ss.length+1:=⟨_,rfl⟩
 obtain ⟨n2,hn2⟩:∃ n2,n2=2 * gn:=⟨_,rfl⟩
 have hw1:IntKind.i64.wrap ((ss.length:Int)+1)=(lx:Int):=by rw [hlx];exact wrap_i64_succ ss.length (ss.length+1) rfl (by omega)
 have hw2:IntKind.i64.wrap (2 * (gn:Int))=(n2:Int):=by rw [hn2,IntKind.wrap_i64];omega
 have HBL:Hid (Tryz.prog.built 186 [(0,.int .i64 12),(2,.int .i64 (n2:Int)),(3,.int .i64 (lx:Int))]=some (svC ⟨12,noBytes,n2,lx,0,0⟩).toArray):=hid (built_mark (n2:Int) (lx:Int))
 have HE:=hid (And.intro hlx hn2)
 clear hlx hn2
 go_upto_region 9 with (show wpList _ _ _ (⟨_,.build 186 _,_,_,_,_⟩::_) _ _;refine wpList_push rfl rfl rfl [(0,.const (.int .i64 12)),(2,.tmp 50),(3,.tmp 53)] rfl (.tmp 54) rfl (.tmp 47) (.tmp 55) rfl _ ⟨12,noBytes,n2,lx,0,0⟩ rfl HBL.out (fun _=>rfl) (fun _ _=>rfl) (fun _ _=>rfl) G0.out (by omega) ?_)
 intro gb2 cap s2 w2 cc hs2 G2
 obtain ⟨hlx,hn2⟩:=HE.out
 have HS2:Hid (s2=ss++[⟨12,noBytes,n2,lx,0,0⟩]∧s2.length=ss.length+1):=hid ⟨hs2,by rw [hs2,List.length_append];rfl⟩
 have dk:=(HX.out.bl' G2).at_ 260 _ HA.out.2.2.2.2.2.1
 obtain ⟨gk,e1,e2,e3⟩:=HK.out 0 j (by rw [hks];rfl)
 have dj:=((HX.out.kp G2).cell (p:=⟨gk,0,none⟩) e2 (by simp)).trans e3
 rw [e1,hks] at dk
 have dk:w2.cell? ⟨xb,260,none⟩=some (.slice (some ⟨gk,0,none⟩) 1 kc):=dk
 have GG:=hid G2
 clear G2 dn hw1 e1 e2 e3 HBL G0 c0 hs2 hlx hn2
 go_wp2_with fail
 refine (HKid.out.go HX.out GG.out (by have:=HS2.out.2;omega) (by omega)).mono ?_
 rintro e w3 ⟨a3,c3,s3,ss3,rfl,hs3,hS3,hl3,G3⟩
 have dn3:=(HX.out.bl' G3).at_ 257 _ HA.out.2.2.1
 rw [hgn] at dn3
 have HS3:=hid (And.intro hs3 (And.intro hS3 hl3))
 obtain ⟨l3,hl3'⟩:∃ l3,l3=s3.length+1:=⟨_,rfl⟩
 obtain ⟨n3,hn3'⟩:∃ n3,n3=n2+1:=⟨_,rfl⟩
 have l3b:s3.length≤100000:=by have:=HS2.out.2;omega
 have hw3:IntKind.i64.wrap ((s3.length:Int)+1)=(l3:Int):=by rw [hl3'];exact wrap_i64_succ s3.length (s3.length+1) rfl (by omega)
 have hw4:IntKind.i64.wrap ((n2:Int)+1)=(n3:Int):=by rw [hn3'];exact wrap_i64_succ n2 (n2+1) rfl (by have:=HE.out.2;omega)
 have HB3:Hid (Tryz.prog.built 186 [(0,.int .i64 12),(2,.int .i64 (n3:Int)),(3,.int .i64 (l3:Int))]=some (svC ⟨12,noBytes,n3,l3,0,0⟩).toArray):=hid (built_mark (n3:Int) (l3:Int))
 have HE3:=hid (And.intro hl3' hn3')
 have G3:=hid G3
 clear hs3 hS3 hl3 hl3' hn3' dk dj
 go_wp2_with (show wpList _ _ _ (⟨_,.build 186 _,_,_,_,_⟩::_) _ _;refine wpList_push rfl rfl rfl [(0,.const (.int .i64 12)),(2,.tmp 69),(3,.tmp 72)] rfl (.tmp 73) rfl (.tmp 65) (.tmp 74) rfl _ ⟨12,noBytes,n3,l3,0,0⟩ rfl HB3.out (fun _=>rfl) (fun _ _=>rfl) (fun _ _=>rfl) G3.out (by omega) ?_)
 intro gb4 cap4 s4 w4 cc4 hs4 G4
 have HS4:=hid (And.intro hs4 G4)
 clear hs4 G4
 go_wp2_with fail
 go_ret
 obtain ⟨hs4,G4⟩:=HS4.out
 obtain ⟨hs3,hS3,hl3⟩:=HS3.out
 obtain ⟨hs2,hl2⟩:=HS2.out
 rw [hl2] at hS3 hl3
 have e4:s4=ss++([⟨12,noBytes,n2,lx,0,0⟩]++(ss3++[⟨12,noBytes,n3,l3,0,0⟩])):=by rw [hs4,hs3,hs2];simp only [List.append_assoc]
 have hS:SvL ([⟨12,noBytes,n2,lx,0,0⟩]++(ss3++[⟨12,noBytes,n3,l3,0,0⟩])) (fGroup gn f.1 f.2 ss.length d):=
  SvL.app (is:=[noIn 3 (ss.length+1) 0 (2 * gn) 0]) (SvL.one ⟨rfl,HE.out.2,HE.out.1,rfl⟩) (hS3.app (SvL.one ⟨rfl,by show n3=2 * gn+1;have:=HE3.out.2;have:=HE.out.2;omega,by show l3=ss.length+f.1+2;have:=HE3.out.1;omega,rfl⟩))
 have G4':=G4
 rw [e4] at G4'
 rw [e4]
 exact HX.out.out G4' hS
end
abbrev fltV (E k:Nat):Value:=.iface 214 (.agg #[.int .i64 (E:Int),.int .i64 (k:Int)])
abbrev fltE (E k:Nat):Ending:=.panicked [{ v:=fltV E k,recovered:=false }]
abbrev noB:ByteArray:=⟨#[]⟩
abbrev Flts:=Nat×Nat
theorem cokP {G:Nat} {x:Pn} (h:PatG G x):Cok (cdL (codeOf x.pi)) (1+x.pi.len) x.pi.dd (x.pi.em 1 0 0).2:=by
 have hm:=h.ok.sm noB
 obtain ⟨wf1,wf2⟩:=hm.wf 1 0 0 (1+x.pi.len) x.pi.dd (by omega) (by omega) (by omega)
 have hin:∀ a,a < x.pi.len→cdL (codeOf x.pi) (a+1)∈(x.pi.em 1 0 0).1:=fun a ha=>by
  have hcl:(codeOf x.pi).length=1+x.pi.len:=by unfold codeOf;rw [List.length_cons,hm.lens];omega
  have:(x.pi.em 1 0 0).1[a]? = some (cdL (codeOf x.pi) (a+1)):=by
   have:=cdL_at (l:=codeOf x.pi) (a:=a+1) (by omega)
   simpa [codeOf] using this
  exact List.mem_of_getElem? this
 have c0:cdL (codeOf x.pi) 0=noIn 6 0 0 0 0:=by simp [cdL,codeOf]
 refine ⟨fun a ha=>?_,fun a ha h3=>?_,wf2⟩
 ·match a,ha with
  | 0,_=>rw [c0];exact ⟨by simp,by simp;omega,by simp;omega,by simp,by simp⟩
  | a+1,ha=>
   obtain ⟨a1,a2,a3,a4,a5,_⟩:=wf1 _ (hin a (by omega))
   exact ⟨by omega,a2,a3,a4,a5⟩
 ·match a,ha with
  | 0,_=>rw [c0] at h3;simp at h3
  | a+1,ha=>exact (wf1 _ (hin a (by omega))).2.2.2.2.2 h3
theorem catchP_flt {p q r:Nat} {E k:Nat} {w:World} {v0 v1 v2:Value} (h0:w.cell? ⟨p,0,none⟩=some v0) (h1:w.cell? ⟨q,0,none⟩=some v1) (h2:w.cell? ⟨r,0,none⟩=some v2) (f0:w.frozen? ⟨p,0,none⟩=false) (f1:w.frozen? ⟨q,0,none⟩=false) (f2:w.frozen? ⟨r,0,none⟩=false) (hpq:p≠q) (hpr:p≠r) (hqr:q≠r) :
  CallsD Tryz.prog 110 #[.pointer (some ⟨p,0,none⟩),.pointer (some ⟨q,0,none⟩),.pointer (some ⟨r,0,none⟩)] (.panicking [{ v:=fltV E k,recovered:=false }]) w fun e u' w'=>e=.returned (.tuple #[])∧u'=.panicking [{ v:=fltV E k,recovered:=true }]∧Kp [p,q,r] w w'∧w'.cell? ⟨p,0,none⟩=some (.pointer none)∧w'.cell? ⟨q,0,none⟩=some (.int .i64 (E:Int))∧w'.cell? ⟨r,0,none⟩=some (.int .i64 (k:Int)):=by
 have hta:∀ w:World,(Instr.typeAssert (fltV E k) 20 214 true).run Tryz.prog w=.ok (.tuple #[.agg #[.int .i64 (E:Int),.int .i64 (k:Int)],.bool true]) w:=fun w=>by kernel_rfl
 refine callsD_of_wpS Tryz.func110 rfl fun c₀ cs hu=>?_
 apply wpS_seq
 apply wpS_region
 simp [wpOpsS,go_sem,recoverD,hu,Tryz.ntmps110,Exit.thenS]
 refine wpS_of_wp ?_
 have hrep:(Array.replicate 13 undef:Array Value)=#[undef,undef,undef,undef,undef,undef,undef,undef,undef,undef,undef,undef,undef]:=rfl
 rw [hrep]
 simp only [List.append_toArray,List.cons_append,List.nil_append,List.setIfInBounds_toArray,List.set_cons_zero,List.set_cons_succ]
 have ka:=Kp.alloc [] w (.cells #[.int .i64 (E:Int),.int .i64 (k:Int)] 214)
 have BN:=Bl.alloc w [.int .i64 (E:Int),.int .i64 (k:Int)] 214
 have lp:=World.block_lt_of_cell? _ _ h0
 have lq:=World.block_lt_of_cell? _ _ h1
 have lr:=World.block_lt_of_cell? _ _ h2
 have g0:=(ka.cell (p:=⟨p,0,none⟩) lp (by simp)).trans h0
 have g1:=(ka.cell (p:=⟨q,0,none⟩) lq (by simp)).trans h1
 have g2:=(ka.cell (p:=⟨r,0,none⟩) lr (by simp)).trans h2
 have e0:=(ka.frozen (p:=⟨p,0,none⟩) lp (by simp)).trans f0
 have e1:=(ka.frozen (p:=⟨q,0,none⟩) lq (by simp)).trans f1
 have e2:=(ka.frozen (p:=⟨r,0,none⟩) lr (by simp)).trans f2
 go_upto_region 7 with fail
 obtain ⟨t,ht⟩:∃ t,t=w.heap.size:=⟨_,rfl⟩
 obtain ⟨W,hW⟩:∃ W,W=w.alloc (.cells #[.int .i64 (E:Int),.int .i64 (k:Int)] 214):=⟨_,rfl⟩
 have hpt:p≠t:=by have lp:p < w.heap.size:=lp;omega
 have hqt:q≠t:=by have lq:q < w.heap.size:=lq;omega
 have hrt:r≠t:=by have lr:r < w.heap.size:=lr;omega
 rw [←ht,←hW] at BN
 rw [←hW] at g0 g1 g2 e0 e1 e2 ka
 rw [←ht,←hW]
 have c0:=BN.at_ 0 _ rfl
 have c1:=BN.at_ 1 _ rfl
 have KA:=hid ka
 clear ht hW lp lq lr BN ka h0 h1 h2 f0 f1 f2
 have FIN:Kp [p,q,r] w (((W.setCell ⟨p,0,none⟩ (.pointer none)).setCell ⟨q,0,none⟩ (.int .i64 (E:Int))).setCell ⟨r,0,none⟩ (.int .i64 (k:Int))).drew∧(((W.setCell ⟨p,0,none⟩ (.pointer none)).setCell ⟨q,0,none⟩ (.int .i64 (E:Int))).setCell ⟨r,0,none⟩ (.int .i64 (k:Int))).drew.cell? ⟨p,0,none⟩=some (.pointer none)∧(((W.setCell ⟨p,0,none⟩ (.pointer none)).setCell ⟨q,0,none⟩ (.int .i64 (E:Int))).setCell ⟨r,0,none⟩ (.int .i64 (k:Int))).drew.cell? ⟨q,0,none⟩=some (.int .i64 (E:Int))∧(((W.setCell ⟨p,0,none⟩ (.pointer none)).setCell ⟨q,0,none⟩ (.int .i64 (E:Int))).setCell ⟨r,0,none⟩ (.int .i64 (k:Int))).drew.cell? ⟨r,0,none⟩=some (.int .i64 (k:Int)):=by
  have a1:(W.setCell ⟨p,0,none⟩ (.pointer none)).cell? ⟨q,0,none⟩=some v1:=(cell_other _ (fun e=>by injection e with e _ _;exact hpq e)).trans g1
  have a2:((W.setCell ⟨p,0,none⟩ (.pointer none)).setCell ⟨q,0,none⟩ (.int .i64 (E:Int))).cell? ⟨r,0,none⟩=some v2:=(cell_other _ (fun e=>by injection e with e _ _;exact hqr e)).trans ((cell_other _ (fun e=>by injection e with e _ _;exact hpr e)).trans g2)
  refine ⟨(KA.out.mono (by simp)).trans ((Kp.setCell _ _ (by simp)).trans ((Kp.setCell _ _ (by simp)).trans ((Kp.setCell _ _ (by simp)).trans (Kp.drew _ _)))),?_,?_,?_⟩
  ·exact (cell_other _ (fun e=>by injection e with e _ _;exact hpr e.symm)).trans ((cell_other _ (fun e=>by injection e with e _ _;exact hpq e.symm)).trans (cell_same _ g0))
  ·exact (cell_other _ (fun e=>by injection e with e _ _;exact hqr e.symm)).trans (cell_same _ a1)
  ·exact cell_same _ a2
 have HF:=hid FIN
 clear FIN
 go_region_with fail
 all_goals
  obtain ⟨b1,b2,b3,b4⟩:=HF.out
  clear HF
  generalize (((W.setCell ⟨p,0,none⟩ (.pointer none)).setCell ⟨q,0,none⟩ (.int .i64 (E:Int))).setCell ⟨r,0,none⟩ (.int .i64 (k:Int))).drew=W4 at *
  exact ⟨rfl,_,rfl,_,results_none rfl _ _ _,rfl,rfl,b1,b2,b3,b4⟩
theorem caughtP_tf {E k a:Nat} {src:ByteArray} {w:World} (hw:Nm w) (ha:w.cell? ⟨a,0,none⟩=some (.string src)) (h:∀ W:World,Nm W→W.cell? ⟨a,0,none⟩=some (.string src)→Calls Tryz.prog 62 #[.pointer (some ⟨a,0,none⟩)] W fun e w'=>e=fltE E k∧Kp [] W w') :
  Calls Tryz.prog 61 #[.func (.func 62) #[] #[.pointer (some ⟨a,0,none⟩)]] w fun e w'=>e=.returned (.tuple #[.pointer none,.int .i64 (E:Int),.int .i64 (k:Int)])∧Kp [] w w':=by
 have hmf:∀ (fn:Fn) (first cap:Array Value) (w:World),(Instr.makeFunc fn first cap).run Tryz.prog w=.ok (.func fn first cap) w:=fun _ _ _ _=>rfl
 go_enter_defers Tryz.func61,Tryz.ntmps61
 go_wp2_with fail
 obtain ⟨W,hW⟩:∃ W:World,W=((w.alloc (.cells #[.pointer none] 105)).alloc (.cells #[.int .i64 0] 49)).alloc (.cells #[.int .i64 0] 3):=⟨_,rfl⟩
 have kW:Kp [] w W:=by rw [hW];exact (Kp.alloc _ _ _).trans ((Kp.alloc _ _ _).trans (Kp.alloc _ _ _))
 have zW:W.heap.size=w.heap.size+3:=by rw [hW];simp
 have a0:W.cell? ⟨w.heap.size,0,none⟩=some (.pointer none):=by rw [hW];simp [go_sem]
 have a1:W.cell? ⟨w.heap.size+1,0,none⟩=some (.int .i64 0):=by rw [hW];simp [go_sem]
 have a2:W.cell? ⟨w.heap.size+1+1,0,none⟩=some (.int .i64 0):=by rw [hW];simp [go_sem]
 have f0:W.frozen? ⟨w.heap.size,0,none⟩=false:=by rw [hW];simp [go_sem]
 have f1:W.frozen? ⟨w.heap.size+1,0,none⟩=false:=by rw [hW];simp [go_sem]
 have f2:W.frozen? ⟨w.heap.size+1+1,0,none⟩=false:=by rw [hW];simp [go_sem]
 rw [←hW]
 clear hW
 refine (h W (hw.keep kW (by simp)) ((kW.cell (p:=⟨a,0,none⟩) (World.block_lt_of_cell? _ _ ha) (by simp)).trans ha)).mono ?_
 rintro e w1 ⟨rfl,k1⟩
 have b0:=(k1.cell (p:=⟨w.heap.size,0,none⟩) (by simp;omega) (by simp)).trans a0
 have b1:=(k1.cell (p:=⟨w.heap.size+1,0,none⟩) (by simp;omega) (by simp)).trans a1
 have b2:=(k1.cell (p:=⟨w.heap.size+1+1,0,none⟩) (by simp;omega) (by simp)).trans a2
 have g0:=(k1.frozen (p:=⟨w.heap.size,0,none⟩) (by simp;omega) (by simp)).trans f0
 have g1:=(k1.frozen (p:=⟨w.heap.size+1,0,none⟩) (by simp;omega) (by simp)).trans f1
 have g2:=(k1.frozen (p:=⟨w.heap.size+1+1,0,none⟩) (by simp;omega) (by simp)).trans f2
 clear a0 a1 a2 f0 f1 f2
 go_wp2_with fail
 refine leaves_cons (f:=110) (args:=#[.pointer (some ⟨w.heap.size,0,none⟩),.pointer (some ⟨w.heap.size+1,0,none⟩),.pointer (some ⟨w.heap.size+1+1,0,none⟩)]) (by simp) (by simp [go_sem]) ?_
 refine (catchP_flt b0 b1 b2 g0 g1 g2 (by omega) (by omega) (by omega)).mono ?_
 rintro e u' w2 ⟨rfl,rfl,k2,d0,d1,d2⟩
 have K2:=Kp.own (x:=w.heap.size) (Kp.own (x:=w.heap.size+1) (Kp.own (x:=w.heap.size+1+1) (S:=[w.heap.size+1,w.heap.size]) (((kW.trans k1).mono (by simp)).trans (k2.mono (by simp))) (by omega)) (by omega)) (by omega)
 simp [Leaves,settle,results,Tryz.results61,go_sem,d0,d1,d2]
 exact K2
theorem readingP_tf {E k a:Nat} {src:ByteArray} (h:ReadFP src 0 E k) (W:World) (hW:Nm W) (ha:W.cell? ⟨a,0,none⟩=some (.string src)):Calls Tryz.prog 62 #[.pointer (some ⟨a,0,none⟩)] W fun e w'=>e=fltE E k∧Kp [] W w':=by
 have H:=hid (h W hW)
 clear h
 go_enter Tryz.func62,Tryz.ntmps62
 go_wp2_with fail
 refine H.out.mono ?_
 rintro e w1 ⟨rfl,k1⟩
 go_wp2_with fail
 exact ⟨rfl,rfl,k1⟩
theorem readPattern_tf {E k:Nat} {src:ByteArray} {w:World} (hw:Nm w) (h:ReadFP src 0 E k):Calls Tryz.prog 34 #[.string src] w fun e w'=>e=.returned (.tuple #[.pointer none,.int .i64 (E:Int),.int .i64 (k:Int)])∧Kp [] w w':=by
 have hmf:∀ (fn:Fn) (first cap:Array Value) (w:World),(Instr.makeFunc fn first cap).run Tryz.prog w=.ok (.func fn first cap) w:=fun _ _ _ _=>rfl
 have k0:=Kp.alloc [] w (.cells #[.string src] 9)
 go_enter Tryz.func34,Tryz.ntmps34
 go_wp2_with fail
 refine (caughtP_tf (a:=w.heap.size) (src:=src) (hw.keep k0 (by simp)) (by simp) (readingP_tf h)).mono ?_
 rintro e w1 ⟨rfl,k1⟩
 go_wp2_with fail
 go_ret3
 exact ⟨rfl,k0.trans k1⟩
def MatO (w:World) (text:ByteArray):Except Flts (Nat×Pn)→Ending→World→Prop
 | .error (E,k),e,w'=>e=.returned (.tuple #[.slice none 0 0,.int .i64 (E:Int),.int .i64 (k:Int)])∧Kp [] w w'
 | .ok (G,x),e,w'=>Kp [] w w'∧∃ s',Runs (cdL (codeOf x.pi)) (1+x.pi.len) x.pi.dd text (x.pi.em 1 0 0).2 (text.size+1) 0 [] mc0 s' ∧
   ((s'.fd=false∧e=.returned (.tuple #[.slice none 0 0,.int .i64 0,.int .i64 0])) ∨
    (s'.fd=true∧∃ q z,e=.returned (.tuple #[.slice (some ⟨q,0,none⟩) (2+2 * G) z,.int .i64 0,.int .i64 0])∧w'.ownsRow w.heap.size 3 1 (.slice (some ⟨q,0,none⟩) (2+2 * G) z) (2+2 * G) ((nf s'.best).take (2+2 * G))))
def matE (src text:ByteArray):Except Flts (Nat×Pn):=if 1000 < text.size then .error (1,0) else readP src 0
theorem match_t (src text:ByteArray) (hs:src.size < 4611686018427387904) {w:World} (hw:Nm w):Calls Tryz.prog 19 #[.string src,.string text] w (MatO w text (matE src text)):=by
 unfold matE
 by_cases h1:1000 < text.size
 ·rw [if_pos h1]
  have hts:(1000:Int) < text.size:=by omega
  go_enter Tryz.func19,Tryz.ntmps19
  go_wp2_with fail
  go_ret3
  exact ⟨rfl,Kp.refl _ _⟩
 ·rw [if_neg h1]
  have hts:¬ (1000:Int) < text.size:=by omega
  have H:match readP src 0 with
    | .ok (G,x)=>PatG G x∧src.size≤100+0∧Reads src 0 G (1+x.pi.len) ((x.pi.em 1 0 0).2:Nat) x.pi.dd (flatI (codeOf x.pi))
    | .error (E,pl)=>ReadFP src 0 E pl∧1≤E∧E≤3:=by
   by_cases h2:100+0 < src.size
   ·rw [show readP src 0=.error (1,0) by unfold readP;rw [if_pos h2]]
    exact ⟨readF_longP h2 hs,by omega,by omega⟩
   ·exact readP_g (src:=src) (fr:=0) (by omega) (Nat.zero_le _)
  cases e:readP src 0 with
  | error z=>
   obtain ⟨E,k⟩:=z
   rw [e] at H
   obtain ⟨hF,hE,_⟩:=H
   have hq:((E:Int) == 0)=false:=by rw [beq_eq_false_iff_ne];omega
   have HF:=hid (readPattern_tf hw hF)
   clear hF hE e hw
   go_enter Tryz.func19,Tryz.ntmps19
   go_wp2_with fail
   refine HF.out.mono ?_
   rintro e w1 ⟨rfl,k1⟩
   go_wp2_with fail
   go_ret3
   exact ⟨rfl,k1⟩
  | ok z=>
   obtain ⟨G,x⟩:=z
   rw [e] at H
   obtain ⟨hq,hsz,hr⟩:=H
   have HR:=hid (readPattern_gen hw (by omega) (by omega) hr)
   have HQ:=hid hq
   have HT:=hid h1
   clear hr e hw hq hsz h1
   go_enter Tryz.func19,Tryz.ntmps19
   go_wp2_with fail
   refine HR.out.mono ?_
   rintro e w1 ⟨p,rfl,pt,k1⟩
   obtain ⟨g,c,hcd1⟩:=cd_node (HQ.out.ok.sm noB) pt
   have HCD:=hid (And.intro hcd1 (And.intro pt.c1 pt.c2))
   clear hcd1 pt HR
   go_wp2_with fail
   refine (find_new (bg:=(x.pi.em 1 0 0).2) (G:=G) HCD.out.1 HCD.out.2.1 HCD.out.2.2 (cokP HQ.out).bg HQ.out.dd HQ.out.g (by have:=HT.out;omega)).mono ?_
   rintro e w2 ⟨k2,s',runs,hr⟩
   have HRU:=hid runs
   clear runs
   rcases hr with ⟨hfd,rfl⟩ | ⟨hfd,b,z,rfl,hc⟩
   ·have HFD:=hid hfd
    clear hfd
    go_wp2_with fail
    go_ret3
    exact ⟨k1.trans k2,s',HRU.out,.inl ⟨HFD.out,rfl⟩⟩
   ·have HC:=hid (And.intro hfd (ownsRow_lower hc k1.size))
    clear hc hfd
    go_wp2_with fail
    go_ret3
    exact ⟨k1.trans k2,s',HRU.out,.inr ⟨HC.out.1,b,z,rfl,HC.out.2⟩⟩
section
variable {w w' w1:World} {B b q:Nat} {src:ByteArray} {k g:Nat} {bad:Int} {v v' v1:Value} {N:List Nw}
theorem table_rep {text:ByteArray} {kidv:Value} {i:Nat} {p:Nw} (hP:Ps w B b q src k g bad v N) (hi:N[i]? = some p) (hN:N.length≤100000) (hn:text.size≤900) {m:Nat} {V:Rt} {a:Nat} {bo:Option Nat} (hm:m≤w.heap.size) (hK:Ks w m kidv text.size [V]) (hV:Mng text.size V) (hk:p.1.kind=7) (ha:p.1.least=(a:Int)) (ha2:a≤20) (hb:p.1.most=mzI bo) (hb2:∀ x,bo=some x→a≤x∧x≤20) :
  Calls Tryz.prog 71 #[.pointer (some ⟨q,0,none⟩),.int .i64 (i:Nat),.string text,kidv] w fun e w'=>∃ ov,e=.returned ov∧RpS w text.size (vRep text V a bo) ov w':=by
 obtain ⟨gb,cg,hv,hlt,hcg,hcell⟩:=hP.nodes hi
 obtain ⟨cn,hcn⟩:∃ cn,cn=ndC p.1 p.2:=⟨_,rfl⟩
 have hcl:cn.length=262:=by rw [hcn];exact ndC_len _ _
 have hc1:∀ u∈cn,u.oneCell'=true:=by rw [hcn];exact ndC_one _ (hP.kd p (List.mem_of_getElem? hi)).one
 have RG:Hid (w.rangeAt gb (i * 262) cn):=hid (fun j u hu=>hcell j u (by rw [←hcl];exact (List.getElem?_eq_some_iff.1 hu).1) (by rw [←hcn];exact hu))
 have q0:=hP.q0
 rw [hv] at q0
 have qi:(i:Int) < (N.length:Int):=by omega
 have qi0:(0:Int)≤(i:Int):=by omega
 obtain ⟨n,hnn⟩:∃ n,n=text.size:=⟨_,rfl⟩
 have hmk:=fun w=>make_table1 w n (by omega)
 have hn1:IntKind.i64.wrap ((n:Int)+1)=((n+1:Nat):Int):=wrap_i64_succ n (n+1) rfl (by omega)
 have hA:=ndC_at p.1 p.2
 rw [←hcn] at hA
 have HA:=hid (And.intro hA hcn)
 obtain ⟨xb,hxb⟩:∃ xb,xb=w.heap.size:=⟨_,rfl⟩
 obtain ⟨kb,ck,tv,hkv,hck,_,hkb,hkc,hkt⟩:=hK.at_ (j:=0) (V:=V) rfl
 have HK:=hid (And.intro hkt (And.intro hkc hkb))
 have HM:=hid (And.intro hm (And.intro hV (And.intro ha hb)))
 clear hK hkt hkc hkb ha hb
 subst hkv
 clear hcell hP hi hv hA hcn
 rw [←hnn] at hn ⊢
 have HNN:=hid hnn
 clear hnn
 go_enter Tryz.func71,Tryz.ntmps71
 go_upto_region 2 with (first | (refine wpList_load_mid rfl 192 (.tmp 27) rfl gb (i * 262) rfl cn _ RG.out Tryz.underlying192 rfl (by rw [hcl];exact Tryz.szNodeR) ?_) | (refine newVarR (w1:=w) rfl 192 (.tmp 9) (.tmp 28) rfl Tryz.zeroCells192.toList 192 cn rfl rfl (by rw [hcl];kernel_rfl) (by rw [hcl];exact Tryz.szNodeR) hc1 ?_;intro wA bA kA))
 rw [←hxb] at bA ⊢
 obtain ⟨wB,hwB⟩:∃ wB,wB=wA.alloc (.cells (nlC (n+1)) 194):=⟨_,rfl⟩
 obtain ⟨nb,hnb⟩:∃ nb,nb=wA.heap.size:=⟨_,rfl⟩
 have kB:Kp [] wA wB:=by rw [hwB];exact Kp.alloc _ _ _
 have sB:wB.heap.size=wA.heap.size+1:=by rw [hwB];simp
 have tB:Tu wB wA.heap.size wB.heap.size nb (n+1) n (fun _=>[]):=by
  have:=Tu.make wA n
  rw [←hwB,←sB] at this
  rw [hnb]
  exact this
 have xB:Bl wB xb cn:=bA.keep kB (by simp)
 have HNL:Hid (∀ a,0≤a→a≤n→wB.cell? ⟨nb,a,none⟩=some (.slice none 0 0)):=hid (fun a _ ha=>by rw [hwB,hnb];exact nil_made wA n a ha)
 have HB:=hid (And.intro tB (And.intro bA (And.intro kA (And.intro kB (And.intro hxb hnb)))))
 have c0:=xB.at_ 0 _ HA.out.1.1
 have sAx:=bA.lt
 clear hxb bA kA xB tB
 go_upto_region 3 with fail
 rw [←HNN.out]
 go_upto_region 4 with fail
 rw [←hwB,←hnb]
 clear kB sB hwB RG q0 qi qi0 hnb
 rw [hk] at c0
 have HB2:=hid hb2
 clear hb2
 go_upto_region 49 with fail
 have s1:=(HB.out.2.1.keep HB.out.2.2.2.1 (by simp)).range
 have kw:Kp [] w wB:=HB.out.2.2.1.trans HB.out.2.2.2.1
 have s2:=(kw.cell (p:=⟨kb,0,none⟩) (by show kb < _;have:=HK.out.2.2;have:=HM.out.1;omega) (by simp)).trans HK.out.2.1
 have HKW:=hid kw
 clear kw
 have hS:(fun w':World=>w'.rangeAt xb 0 cn∧w'.cell? ⟨kb,0,none⟩=some tv) wB.drew:=⟨s1,s2⟩
 refine wp_region_T (fun w':World=>w'.rangeAt xb 0 cn∧w'.cell? ⟨kb,0,none⟩=some tv) 6 (by kernel_rfl) ?_
 refine' wpAnyT_take (i:=0) (v:=_) rfl (by kernel_rfl) (by kernel_rfl) (by kernel_rfl) (by kernel_rfl) (fun _ _ _ h=>h) (yieldsIf_load_mid (by rfl) _ _ rfl _ _ rfl (cn) _ ?hS0 ?hu0 ?hd0 ?hi0) hS ?r0
 case hS0=>(intro w hw;exact hw.1)
 case hu0=>exact Tryz.underlying192
 case hd0=>rfl
 case hi0=>exact (by rw [hcl];exact Tryz.szNodeR)
 simp only [List.getElem_toArray,List.getElem_cons_succ,List.getElem_cons_zero,Act.put,List.setIfInBounds_toArray,List.set_cons_zero,List.set_cons_succ]
 refine tk1 1 (v:=?_) rfl (by kernel_rfl) (fun _ _ _ h=>h) ⟨rfl,fun w hSw=>?_⟩ hS ?_;rotate_left;· ((try dsimp only at hSw);go_simp;(try with_reducible rfl))
 (try simp only [List.getElem_toArray,List.getElem_cons_succ,List.getElem_cons_zero,Act.put,List.setIfInBounds_toArray,List.set_cons_zero,List.set_cons_succ])
 refine tk1 2 (v:=?_) rfl (by kernel_rfl) (fun _ _ _ h=>h) ⟨rfl,fun w hSw=>?_⟩ hS ?_;rotate_left;· ((try dsimp only at hSw);go_simp;(try with_reducible rfl))
 (try simp only [List.getElem_toArray,List.getElem_cons_succ,List.getElem_cons_zero,Act.put,List.setIfInBounds_toArray,List.set_cons_zero,List.set_cons_succ])
 refine tk1 3 (v:=?_) rfl (by kernel_rfl) (fun _ _ _ h=>h) ⟨rfl,fun w hSw=>?_⟩ hS ?_;rotate_left;· ((try dsimp only at hSw);go_simp;(try with_reducible rfl))
 (try simp only [List.getElem_toArray,List.getElem_cons_succ,List.getElem_cons_zero,Act.put,List.setIfInBounds_toArray,List.set_cons_zero,List.set_cons_succ])
 refine tk1 4 (v:=?_) rfl (by kernel_rfl) (fun _ _ _ h=>h) ⟨rfl,fun w hSw=>?_⟩ hS ?_;rotate_left;· ((try dsimp only at hSw);go_simp;(try with_reducible rfl))
 (try simp only [List.getElem_toArray,List.getElem_cons_succ,List.getElem_cons_zero,Act.put,List.setIfInBounds_toArray,List.set_cons_zero,List.set_cons_succ])
 refine wpAnyT_one (i:=5) (by kernel_rfl) rfl (fun K hK=>?_)
 go_simp
 have kd:Kp [] w wB.drew:=HKW.out.trans (Kp.drew [] wB)
 have T5:Tw wB.drew wB.drew.heap.size tv n (ddR V):=by
  have:=HK.out.1.keep kd HM.out.1 (by simp) (Nat.le_trans HM.out.1 kd.size)
  rw [←HNN.out] at this
  exact this
 have V5:Mng n V:=by have:=HM.out.2.1;rw [←HNN.out] at this;exact this
 rw [HA.out.2]
 refine (repeated_any (text:=text) (nd:=p.1) (kv:=p.2) (a:=a) (b:=bo) T5 (Nat.le_refl _) V5 hn HNN.out.symm HM.out.2.2.1 ha2 HM.out.2.2.2 HB2.out).mono ?_
 rintro e w6 ⟨ov,rfl,h6⟩
 obtain ⟨tb,cc,rfl,h7,k7⟩:=h6
 have hS6:(fun w':World=>w'.rangeAt xb 0 cn∧w'.cell? ⟨kb,0,none⟩=some tv) w6:=⟨rangeAt_keep hS.1 k7 (by simp),(k7.cell (World.block_lt_of_cell? _ _ hS.2) (by simp)).trans hS.2⟩
 refine hK.out _ _ (.inr hS6) ?_
 clear hK K
 refine wpAnyT_one (i:=6) (by kernel_rfl) rfl (fun K hK=>?_)
 go_simp
 refine hK.out _ _ (.inl rfl) ?_
 clear hK K
 refine wpAnyT_done (by kernel_rfl) ?_ _
 have HF:=hid (And.intro h7 k7)
 clear h7 k7 hS hS6 s1 s2 T5 V5
 go_wp2_with fail
 go_ret
 exact ⟨_,rfl,tb,cc,rfl,HF.out.1.base kd.size,kd.trans HF.out.2⟩
end
