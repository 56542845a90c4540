import Derived.Test.YtiahkfoojjpaaaaGreatDoorT43
import Derived.Test.YtiahkfoojjpaaaaGreatDoorT41
set_option maxRecDepth 100000
set_option maxHeartbeats 16000000
set_option linter.all false
namespace Go.Proofs.YtiahkfoojjpaaaaGreatDoor
open Go.RowKit Go.Shelf
theorem He {x:ByteArray} (h:x.size=0):(x.toList == [])=true:=by
 have:x=ba []:=Cl (NN h);rw [this,ByteArray.toList_eq,dW]
 rfl
theorem Bz {x:ByteArray} (h:x.size≠0):(x.toList == [])=false:=by
 rw [ByteArray.toList_eq,Nz];intro e;exact h (by show x.data.toList.length=0;rw [e];rfl)
def gC (c:du) (u:Ust):RU:=if c.name.size=0 then .ok u else u.write c.file u.space
def afterT (c:du):RU->RU
 | .error e=>.error e
 | .ok u=>gC c u
theorem gj (c:du) (u:Ust):u.replace c=(match gH c u.space with
  | none=>.ok u
  | some t=>if 4000 < t.length then .error (8,u) else afterT c (if c.print then ({ u with space:=t,fN:=true }:Ust).tell t else .ok { u with space:=t,fN:=true })):=by
 unfold Ust.replace
 cases gH c u.space with
 | none=>rfl
 | some t=>
  dsimp only;split
  .rfl
  .cases (if c.print=true then ({ u with space:=t,fN:=true }:Ust).tell t else .ok { u with space:=t,fN:=true }:RU) <;> rfl
section
variable {w0 w w':World} {mb sb db lo hi:Nat} {s s':Mst} {u:Ust} {σ:Sst} {ca co:Nat} {cv:List Value}
theorem Ga {c:du} {T:List UInt8} {ok:Bool} (h:Mac w0 w mb sb db s) (hc:Az w0 ca co cv) (h18:cv[18]? = some (.bool c.print)) (h6:cv[6]? = some (.string c.name)) (h7:cv[7]? = some (.int .i64 c.file)) (hfile:c.name.size≠0->c.file < u.fb.length) (hp:s.p=u.p) (hu:UOk u)
  (HRP:gH c u.space=if ok then some T else none) (hTl:T.length<=30000000) (H:∀ w2,Kp [] w w2->Calls Tryz.prog 114 #[.string (ba u.space),.pointer (some ⟨ca,co+11,none⟩)] w2 fun r w'=>Kp [] w2 w'/\r=.returned (.tuple #[.string (ba T),.bool ok])) :
  Calls Tryz.prog 63 #[.pointer (some ⟨mb,0,none⟩),.pointer (some ⟨ca,co,none⟩)] w (dB w0 mb sb db w s (u.replace c)):=by
 obtain ⟨RES,hRES⟩:∃ RES,RES=u.replace c:=⟨_,rfl⟩;rw [<-hRES];rw [gj,HRP] at hRES;have HRE:=hid hRES;have HM:=hid h;have HP:=hid hp;have HU:=hid hu;obtain ⟨sp,hsp⟩:∃ sp,sp=u.space:=⟨_,rfl⟩;rw [<-hsp] at H;have e9:s.space=ba sp:=by rw [hsp];exact congrArg Pst.space hp
 have c9:=h.b.at_ 9 _ rfl;rw [e9] at c9;have C9:=hid c9;have HH:=hid H;have HFI:Hid (∀ u':Ust,u'.fb=u.fb->c.name.size≠0->c.file < u'.fb.length):=hid (fun u' e q=>by rw [e];exact hfile q);clear H c9 h hRES hp hu hfile HRP hsp e9;go_enter Tryz.func63,Tryz.ntmps63
 go_wp2_with fail;rename_i K1 hK1;have HK1:=hid hK1;clear hK1;refine wp_region_noPanic ?_;refine wp_region_held (S:=fun w':World=>w'.cell? ⟨mb,9,none⟩=some (.string (ba sp))) (by kernel_rfl) ?_
 change wpAnyH _ _ _ _ _ _ _ _ w.drew
 have hS:(fun w':World=>w'.cell? ⟨mb,9,none⟩=some (.string (ba sp))) w.drew:=C9.out;refine wpAnyH_take (i:=0) (v:=?v0a) rfl (by kernel_rfl) (by kernel_rfl) (by kernel_rfl) (fun _ _ _ h=>h) (Or.inl ⟨by rfl,?y0a⟩) hS ?_
 case y0a=>(intro w hSw;(try dsimp only at hSw);go_simp;(try with_reducible rfl))
 simp only [Nn,Nj,Act.put,Ni,Np,Nq];refine wpAnyH_take (i:=1) (v:=?v1a) rfl (by kernel_rfl) (by kernel_rfl) (by kernel_rfl) (fun _ _ _ h=>h) (Or.inl ⟨by rfl,?y1a⟩) hS ?_
 case y1a=>(intro w hSw;(try dsimp only at hSw);go_simp;(try with_reducible rfl))
 simp only [Nn,Nk,Nj,Act.put,Ni,Np,Nq];refine wpAnyH_take (i:=2) (v:=?v2a) rfl (by kernel_rfl) (by kernel_rfl) (by kernel_rfl) (fun _ _ _ h=>h) (Or.inl ⟨by rfl,?y2a⟩) hS ?_
 case y2a=>(intro w hSw;(try dsimp only at hSw);go_simp;(try with_reducible rfl))
 simp only [Nn,Nk,Nj,Act.put,Ni,Np,Nq];refine wpAnyH_take (i:=3) (v:=?v3a) rfl (by kernel_rfl) (by kernel_rfl) (by kernel_rfl) (fun _ _ _ h=>h) (Or.inl ⟨by rfl,?y3a⟩) hS ?_
 case y3a=>(intro w hSw;(try dsimp only at hSw);go_simp;(try with_reducible rfl))
 simp only [Nn,Nk,Nj,Act.put,Ni,Np,Nq];refine wpAnyH_take (i:=4) (v:=?v4a) rfl (by kernel_rfl) (by kernel_rfl) (by kernel_rfl) (fun _ _ _ h=>h) (Or.inl ⟨by rfl,?y4a⟩) hS ?_
 case y4a=>(intro w hSw;(try dsimp only at hSw);go_simp;(try with_reducible rfl))
 simp only [Nn,Nk,Nj,Act.put,Ni,Np,Nq];refine wpAnyH_take (i:=5) (v:=?v5a) rfl (by kernel_rfl) (by kernel_rfl) (by kernel_rfl) (fun _ _ _ h=>h) (Or.inl ⟨by rfl,?y5a⟩) hS ?_
 case y5a=>(intro w hSw;(try dsimp only at hSw);go_simp;(try with_reducible rfl))
 simp only [Nn,Nk,Nj,Act.put,Ni,Np,Nq];refine wpAnyH_take (i:=6) (v:=?v6a) rfl (by kernel_rfl) (by kernel_rfl) (by kernel_rfl) (fun _ _ _ h=>h) (Or.inl ⟨by rfl,?y6a⟩) hS ?_
 case y6a=>(intro w hSw;(try dsimp only at hSw);go_simp;(try with_reducible rfl))
 simp only [Nn,Nk,Nj,Act.put,Ni,Np,Nq];refine pV (i:=7) (by kernel_rfl) rfl (fun K hK=>?_);go_simp;refine (HH.out w.drew (Kp.drew [] w)).mono ?_;rintro e w2 ⟨k2,rfl⟩;have k02:=(Kp.drew [] w).trans k2;have hS2:(fun w':World=>w'.cell? ⟨mb,9,none⟩=some (.string (ba sp))) w2:=(k02.cell (p:=⟨mb,9,none⟩) (World.block_lt_of_cell? _ _ C9.out) (by simp)).trans C9.out;clear hS;dsimp only;refine hK.out _ _ hS2 ?_;clear hK K;have hS:=hS2;refine wpAnyH_take (i:=8) (v:=?v8a) rfl (by kernel_rfl) (by kernel_rfl) (by kernel_rfl) (fun _ _ _ h=>h) (Or.inl ⟨by rfl,?y8a⟩) hS ?_
 case y8a=>(intro w hSw;(try dsimp only at hSw);go_simp;(try with_reducible rfl))
 simp only [Nn,Nk,Nj,Act.put,Ni,Np,Nq];refine wpAnyH_take (i:=9) (v:=?v9a) rfl (by kernel_rfl) (by kernel_rfl) (by kernel_rfl) (fun _ _ _ h=>h) (Or.inl ⟨by rfl,?y9a⟩) hS ?_
 case y9a=>(intro w hSw;(try dsimp only at hSw);go_simp;(try with_reducible rfl))
 simp only [Nn,Nk,Nj,Act.put,Ni,Np,Nq];refine wpAnyH_take (i:=10) (v:=?v10a) rfl (by kernel_rfl) (by kernel_rfl) (by kernel_rfl) (fun _ _ _ h=>h) (Or.inl ⟨by rfl,?y10a⟩) hS ?_
 case y10a=>(intro w hSw;(try dsimp only at hSw);go_simp;(try with_reducible rfl))
 simp only [Nn,Nk,Nj,Act.put,Ni,Np,Nq];refine wpAnyH_take (i:=11) (v:=?v11a) rfl (by kernel_rfl) (by kernel_rfl) (by kernel_rfl) (fun _ _ _ h=>h) (Or.inl ⟨by rfl,?y11a⟩) hS ?_
 case y11a=>(intro w hSw;(try dsimp only at hSw);go_simp;(try with_reducible rfl))
 simp only [Nn,Nk,Nj,Act.put,Ni,Np,Nq];refine wpAnyH_take (i:=12) (v:=?v12a) rfl (by kernel_rfl) (by kernel_rfl) (by kernel_rfl) (fun _ _ _ h=>h) (Or.inl ⟨by rfl,?y12a⟩) hS ?_
 case y12a=>(intro w hSw;(try dsimp only at hSw);go_simp;(try with_reducible rfl))
 simp only [Nn,Nk,Nj,Act.put,Ni,Np,Nq];refine wpAnyH_done (by kernel_rfl) ?_ _;refine NoPanic.normal ?_;refine HK1.out _ _ ?_;clear HK1 K1 hS hS2;have M2:=hid (HM.out.aj k02)
 cases hok:ok with
 | false=>
  rw [hok,Nr (by simp)] at HRE;go_wp2_with fail;refine bodyPost_ret (results_none rfl _ _ _) rfl ?_;rw [HRE.out];exact ⟨rfl,((aZ.refl M2.out).pre k02).lT HP.out⟩
 | true=>
  rw [hok,Ny rfl] at HRE;have hRE:=HRE.out;clear HRE;dsimp only at hRE;have zT:=ax T;by_cases hbig:4000 < T.length
  .rw [Ny hbig] at hRE;have HRE:=hid hRE;have HB:=hid (xZ (w:=w2) (t:=ba T) (by omega));clear hRE;go_wp2_with fail;refine HB.out.mono ?_;rintro e w3 ⟨rfl,rfl⟩;go_wp2_with fail;refine ⟨rfl,?_⟩;rw [HRE.out];exact ⟨rfl,((aZ.refl M2.out).pre k02).lT HP.out⟩
  rw [Nr hbig] at hRE;have HB:=hid (xY (w:=w2) (t:=ba T) (by omega));obtain ⟨u5,hu5⟩:∃ u5:Ust,u5={ u with space:=T,fN:=true }:=⟨_,rfl⟩;rw [<-hu5] at hRE;have U5:Hid (UOk u5):=hid (by rw [hu5];exact ⟨by show T.length<=4000;omega,HU.out.hd,HU.out.ct,HU.out.ot,HU.out.fb,HU.out.bt,HU.out.bl,HU.out.lf⟩);have S5:Hid (u5.space=T):=hid (by rw [hu5]);have FB5:Hid (u5.fb=u.fb):=hid (by rw [hu5]);have HRE:=hid hRE;clear hRE;obtain ⟨w3,hw3⟩:∃ w3,w3=w2:=⟨_,rfl⟩;rw [<-hw3] at M2 HB k02 ⊢;clear hw3 k2;have d9:=M2.out.b.at_ 9 _ rfl;have f9:=M2.out.b.free 9;have M4:Hid (Mac w0 (w3.setCell ⟨mb,9,none⟩ (.string (ba T))) mb sb db { s with space:=ba T }):=hid (M2.out.set 9 _ (by omega) rfl rfl);have d15:=M4.out.b.at_ 15 _ rfl;have f15:=M4.out.b.free 15;have M5:Hid (Mac w0 ((w3.setCell ⟨mb,9,none⟩ (.string (ba T))).setCell ⟨mb,15,none⟩ (.bool true)) mb sb db { s with space:=ba T,fN:=true }):=hid (M4.out.set 15 _ (by omega) rfl rfl)
  have P5:Hid (({ s with space:=ba T,fN:=true }:Mst).p=u5.p):=hid (by
   show ({ s.p with space:=ba T,fN:=true }:Pst)=_;rw [HP.out,hu5]
   rfl)
  have G5:Hid (Gr mb db w s.r ((w3.setCell ⟨mb,9,none⟩ (.string (ba T))).setCell ⟨mb,15,none⟩ (.bool true)) s.r):=hid ((Gr.de k02 (fun _ e=>by cases e)).trans ((Gr.set _ _ _ _).trans (Gr.set _ _ _ _)));have o18:=hc.now M5.out h18;have hT4:T.length<=4000:=by omega
  clear hu5 hbig;go_wp2_with fail;refine HB.out.mono ?_;rintro e w9 ⟨rfl,rfl⟩;clear M2 M4
  cases hpr:c.print
  .rw [hpr] at o18;have EQ:Hid (RES=gC c u5):=hid (by rw [HRE.out,hpr,Nr (by simp)];rfl);clear HRE;have o6:=hc.now M5.out h6;have o7:=hc.now M5.out h7;by_cases hnm:c.name.size=0
   .have q6:=He hnm;have RE:Hid (RES=.ok u5):=hid (by rw [EQ.out,gC,Ny hnm]);clear hnm;go_wp2_with fail;go_end0;rw [RE.out];exact ⟨rfl,_,P5.out,M5.out,G5.out⟩
   .have q6:=Bz hnm;have WT:=yn (t:=u5.space) (M5.out.aj (Kp.drew [] _)) P5.out U5.out (HFI.out u5 FB5.out hnm) (by have:=U5.out.sp;omega);have RE:Hid (RES=u5.write c.file u5.space):=hid (by rw [EQ.out,gC,Nr hnm]);have o9:=M5.out.b.at_ 9 _ rfl;rw [S5.out] at WT RE;clear hnm;obtain ⟨RW,hRW⟩:∃ RW,RW=u5.write c.file T:=⟨_,rfl⟩;rw [<-hRW] at WT RE;have HWT:=hid WT;clear WT hRW
    cases RW with
    | error q=>
     obtain ⟨E,u9⟩:=q;go_wp2_with fail;go_region_dies
     all_goals
      refine HWT.out.mono ?_;rintro r w9 ⟨rfl,s9,e9,m9,g9⟩;refine ⟨rfl,?_⟩;rw [RE.out];exact ⟨rfl,s9,e9,m9,G5.out.trans ((Gr.de (Kp.drew [] _) (fun _ e=>by cases e)).trans g9)⟩
    | ok u9=>
     go_wp2_with fail;go_region_with (go_at_call 116;refine HWT.out.mono ?_;rintro r w9 ⟨rfl,g9⟩)
     all_goals
      go_wp2_with fail;go_end0;rw [RE.out];obtain ⟨s9,e9,m9,g9⟩:=g9;exact ⟨rfl,s9,e9,m9,G5.out.trans ((Gr.de (Kp.drew [] _) (fun _ e=>by cases e)).trans g9)⟩
  .rw [hpr] at o18;have hRE:=HRE.out;rw [hpr,Ny rfl] at hRE;have TT:=iJ (t:=T) (M5.out.aj (Kp.drew [] _)) P5.out U5.out (by omega);obtain ⟨RT,hRT⟩:∃ RT,RT=u5.tell T:=⟨_,rfl⟩;rw [<-hRT] at TT hRE
   have OKT:Hid (∀ u6,RT=.ok u6->UOk u6/\u6.fb=u.fb):=hid (fun u6 q=>by
    rw [hRT] at q;obtain ⟨q1,q2⟩:=U5.out.tell q;refine ⟨q1,?_⟩;rw [q2]
    exact FB5.out)
   have HTT:=hid TT;have HRE2:=hid hRE;have g9:=M5.out.b.at_ 9 _ rfl;clear HRE hRE TT hRT
   cases RT with
   | error q=>
    obtain ⟨E,u6⟩:=q;go_wp2_with fail;go_region_dies
    all_goals
     refine HTT.out.mono ?_;rintro r w6 ⟨rfl,s6,e6,m6,g6⟩;refine ⟨rfl,?_⟩;rw [HRE2.out];exact ⟨rfl,s6,e6,m6,G5.out.trans ((Gr.de (Kp.drew [] _) (fun _ e=>by cases e)).trans g6)⟩
   | ok u6=>
    obtain ⟨hu6,hf6⟩:=OKT.out u6 rfl;have U6:=hid hu6;have FB:=hid hf6;clear hu6 hf6 OKT;go_wp2_with fail;go_region_with (go_at_call 112;refine HTT.out.mono ?_;rintro r w6 ⟨rfl,g6⟩)
    obtain ⟨s6,e6,m6,gr6⟩:=g6;have M6:=hid m6;have P6:=hid e6;have G6:Hid (Gr mb db w s.r w6 s6.r):=hid (G5.out.trans ((Gr.de (Kp.drew [] _) (fun _ e=>by cases e)).trans gr6));have EQ:Hid (RES=gC c u6):=hid HRE2.out;clear HRE2 m6 e6 gr6 G5 M5 P5 o18 g9 d9 f9 d15 f15;have o6:=hc.now M6.out h6;have o7:=hc.now M6.out h7;by_cases hnm:c.name.size=0
    .have q6:=He hnm;have RE:Hid (RES=.ok u6):=hid (by rw [EQ.out,gC,Ny hnm]);clear hnm;go_wp2_with fail;go_end0;rw [RE.out];exact ⟨rfl,_,P6.out,M6.out,G6.out⟩
    .have q6:=Bz hnm;have WT:=yn (t:=u6.space) (M6.out.aj (Kp.drew [] _)) P6.out U6.out (HFI.out u6 FB.out hnm) (by have:=U6.out.sp;omega);have RE:Hid (RES=u6.write c.file u6.space):=hid (by rw [EQ.out,gC,Nr hnm]);have o9:=M6.out.b.at_ 9 _ rfl;have e9:s6.space=ba u6.space:=congrArg Pst.space P6.out;rw [e9] at o9;clear e9;clear hnm;obtain ⟨RW,hRW⟩:∃ RW,RW=u6.write c.file u6.space:=⟨_,rfl⟩;rw [<-hRW] at WT RE;have HWT:=hid WT;clear WT hRW
     cases RW with
     | error q=>
      obtain ⟨E,u9⟩:=q;go_wp2_with fail;go_region_dies
      all_goals
       refine HWT.out.mono ?_;rintro r w9 ⟨rfl,s9,e9,m9,g9⟩;refine ⟨rfl,?_⟩;rw [RE.out];exact ⟨rfl,s9,e9,m9,G6.out.trans ((Gr.de (Kp.drew [] _) (fun _ e=>by cases e)).trans g9)⟩
     | ok u9=>
      go_wp2_with fail;go_region_with (go_at_call 116;refine HWT.out.mono ?_;rintro r w9 ⟨rfl,g9⟩)
      all_goals
       go_wp2_with fail;go_end0;rw [RE.out];obtain ⟨s9,e9,m9,g9⟩:=g9;exact ⟨rfl,s9,e9,m9,G6.out.trans ((Gr.de (Kp.drew [] _) (fun _ e=>by cases e)).trans g9)⟩
end
end Go.Proofs.YtiahkfoojjpaaaaGreatDoor
namespace Go.Proofs.YtiahkfoojjpaaaaGreatDoor
open Go.RowKit
structure Prg (w0:World) (lo hi sb:Nat) (σ:Sst) (S:fj):Prop where
 sc:Scr lo hi w0 sb 0 σ
 pg:Nc σ S
 ok:pd S
 pw:Pow w0
structure jJ (w0:World) (σ:Sst) (S:fj) (ca co:Nat) (cv:List Value) (c:du):Prop where
 at_:Az w0 ca co cv
 is:ub σ.fs cv c
 ok:fR S.names.length S.ranges c
 gl:c.goal<=S.aE.length
 fx:∀ f∈σ.fs,w0.heap[f.1]? = some f.2
structure SOk (S:fj) (u:Ust):Prop where
 ok:UOk u
 fb:u.fb.length=S.names.length
 rg:u.rg.length=S.ranges
 pc:u.pc<=S.aE.length
 st:u.steps<=2000
section
variable {w0 w w' w2:World} {mb sb db lo hi:Nat} {s s':Mst} {u:Ust} {σ:Sst} {S:fj} {ca co:Nat} {cv:List Value} {c:du} {q:Ptn}
theorem Prg.cmd (h:Prg w0 lo hi sb σ S) {i:Nat} (hc:S.aE[i]? = some c):∃ g cap cv,σ.vc=.slice (some ⟨g,0,none⟩) σ.cs.length cap/\σ.cs[i]? = some cv/\jJ w0 σ S g (i * 23) cv c:=by
 have hi:=(List.getElem?_eq_some_iff.1 hc).1;obtain ⟨cv,hcv⟩:∃ cv,σ.cs[i]? = some cv:=⟨_,Nv (by rw [h.pg.len];exact hi)⟩;obtain ⟨g,cap,hv,hcell⟩:=h.sc.cmd hcv;have hm:c∈S.aE:=NO hc;refine ⟨g,cap,cv,hv,hcv,⟨⟨Ns (h.sc.h4 g (by rw [hv];rfl)) h.sc.Le,hcell⟩,h.pg.cs i cv c hcv hc,h.ok.ok c hm,h.ok.gl c hm,fun f hf=>(h.sc.fx f hf).1⟩⟩
theorem MF {pb:Nat} (hq:pR q.G q.x) (h:q.Q pb w):∃ g cc,Cd w pb g cc q.n q.D q.cd/\w.cell? ⟨pb,1,none⟩=some (.int .i64 (q.bg:Nat))/\w.cell? ⟨pb,2,none⟩=some (.int .i64 q.G):=by
 obtain ⟨g,cc,hc⟩:=zY (hq.ok.sm noB) h;exact ⟨g,cc,hc,h.c1,h.c2⟩
theorem find_t {pb:Nat} {t:List UInt8} (hq:pR q.G q.x) (h:q.Q pb w) (ht:t.length<=5000) :
  Calls Tryz.prog 32 #[.pointer (some ⟨pb,0,none⟩),.string (ba t)] w fun e w'=>Kp [] w w'/\((q.hit t=false/\e=.returned (.slice none 0 0))\/(q.hit t=true/\∃ b cc,e=.returned (.slice (some ⟨b,0,none⟩) (2+2 * q.G) cc))):=by
 obtain ⟨g,cc,hcd,h1,h2⟩:=MF hq h;refine (Cb hcd h1 h2 (qT hq).bg hq.dd hq.g (by rw [ax];exact ht)).mono ?_;rintro e w1 ⟨k1,s',hruns,hres⟩;have hs:Srch q (ba t) 0 mc0 s':=hruns;have hh:q.hit t=s'.fd:=by unfold Ptn.hit;rw [jS hs]
 refine ⟨k1,?_⟩;rcases hres with ⟨hfd,rfl⟩ | ⟨hfd,b,c2,rfl,_⟩
 .exact .inl ⟨hh.trans hfd,rfl⟩
 .exact .inr ⟨hh.trans hfd,b,c2,rfl⟩
theorem Fq {g o pb:Nat} (h:Mac w0 w mb sb db s) (hp:s.p=u.p) (hu:UOk u) (h0:w.cell? ⟨g,o,none⟩=some (.int .i64 2)) (h2:w.cell? ⟨g,o+2,none⟩=some (.pointer (some ⟨pb,0,none⟩))) (hq:pR q.G q.x) (hQ:∀ wx,Kp [] w wx->q.Q pb wx):yh mb w g o (q.hit u.space):=by
 intro wx kx;have hl:=World.block_lt_of_cell? _ _ h0;have c9:=(h.aj kx).b.at_ 9 _ rfl;have hs:s.space=ba u.space:=congrArg Pst.space hp;rw [hs] at c9;have d0:=(kx.cell (p:=⟨g,o,none⟩) hl (by simp)).trans h0;have d2:=(kx.cell (p:=⟨g,o+2,none⟩) hl (by simp)).trans h2;have l9:=hu.sp;obtain ⟨L,hL⟩:∃ L,L=u.space:=⟨_,rfl⟩;rw [<-hL] at c9 l9 ⊢;have F2:=hid (find_t (w:=wx.drew) (t:=L) hq (hQ _ (kx.trans (Kp.drew [] wx))) (by omega));clear h0 h2 hQ hL hs hp;go_enter Tryz.func158,Tryz.ntmps158
 go_wp2_with fail
 cases hb:q.hit L with
 | false=>
  have F3:Hid (Calls Tryz.prog 32 #[.pointer (some ⟨pb,0,none⟩),.string (ba L)] wx.drew fun e w'=>e=.returned (.slice none 0 0)/\Kp [] wx.drew w'):=hid (F2.out.mono fun e w' ⟨k,h⟩=>by
   rcases h with ⟨_,he⟩ | ⟨hc,_⟩
   .exact ⟨he,k⟩
   .rw [hb] at hc;cases hc)
  go_region_with (go_at_call 32;refine F3.out.mono ?_;rintro r w1 ⟨rfl,k1⟩)
  all_goals
   go_wp2_with fail;go_ret;exact ⟨by rw [hb];rfl,(Kp.drew [] wx).trans k1⟩
 | true=>
  have F3:Hid (Calls Tryz.prog 32 #[.pointer (some ⟨pb,0,none⟩),.string (ba L)] wx.drew fun e w'=>(∃ b n c,e=.returned (.slice (some ⟨b,0,none⟩) n c))/\Kp [] wx.drew w'):=hid (F2.out.mono fun e w' ⟨k,h⟩=>by
   rcases h with ⟨hc,_⟩ | ⟨_,b,c,he⟩
   .rw [hb] at hc;cases hc
   .exact ⟨⟨b,_,c,he⟩,k⟩)
  go_region_with (go_at_call 32;refine F3.out.mono ?_;rintro r w1 ⟨⟨b,n,c,rfl⟩,k1⟩)
  all_goals
   go_wp2_with fail;go_ret;exact ⟨by rw [hb];rfl,(Kp.drew [] wx).trans k1⟩
theorem Fp {g o:Nat} {a:fS} {va:List Value} {fs:List (Nat×Obj)} (h:Mac w0 w mb sb db s) (hp:s.p=u.p) (hu:UOk u) (hv:AdrV fs a.A va) (hc:∀ (j:Nat) (v:Value),va[j]? = some v->w.cell? ⟨g,o+j,none⟩=some v) (hfx:∀ f∈fs,w.heap[f.1]? = some f.2) (hq:∀ p,a=.pat p->pR p.G p.x):yh mb w g o (u.says a):=by
 cases a with
 | num n=>
  have hv:va=jc 0 n:=hv;subst hv;have e:s.number=u.number:=congrArg Pst.number hp;refine Fs h (hc 0 _ rfl) (hc 1 _ rfl) ?_;rw [e];show _=(u.number == n);by_cases hn:u.number=n
  .rw [hn];simp
  .rw [beq_eq_false_iff_ne.2 hn,Nz];omega
 | last=>
  have hv:va=jc 1 0:=hv;subst hv;intro wx kx;have hl:=World.block_lt_of_cell? _ _ (hc 0 _ rfl);have d0:wx.cell? ⟨g,o,none⟩=some (.int .i64 1):=(kx.cell (p:=⟨g,o,none⟩) hl (by simp)).trans (hc 0 _ rfl);have NV:=hid (G8 (h.aj kx) (yU hp));show Calls _ _ _ _ fun r w'=>r=.returned (.bool u.none_)/\_;go_enter Tryz.func158,Tryz.ntmps158
  go_wp2_with fail;refine NV.out.mono ?_;rintro r w1 ⟨rfl,rfl⟩;go_wp2_with fail;go_ret;exact ⟨rfl,Kp.refl _ _⟩
 | pat p=>
  obtain ⟨pb,g2,o1,o2,hv,h1,h2,hB⟩:=hv;subst hv;exact Fq h hp hu (hc 0 _ rfl) (hc 2 _ rfl) (hq p rfl) (fun wx kx=>hB wx ((kx.block pb (aN (hfx _ h1)) (by simp)).trans (hfx _ h1)) ((kx.block g2 (aN (hfx _ h2)) (by simp)).trans (hfx _ h2)))
theorem Ap {g o cc p:Nat} {b:Bool} (h0:w.cell? ⟨g,o,none⟩=some (.slice (some ⟨p,0,none⟩) 1 cc)) (H:yh mb w p 0 b) :
  Calls Tryz.prog 129 #[.pointer (some ⟨mb,0,none⟩),.pointer (some ⟨g,o,none⟩)] w fun r w'=>r=.returned (.bool b)/\Kp [] w w':=by
 have HH:=hid (H w (Kp.refl _ _));clear H;go_enter Tryz.func129,Tryz.ntmps129
 go_wp2_with fail;refine HH.out.mono ?_;rintro r w1 ⟨rfl,g1⟩;go_wp2_with fail;go_ret;exact ⟨rfl,g1⟩
theorem Ao {g o cc:Nat} {A:Option Addr} {b:Bool} {R:World->Prop} (h0:w.cell? ⟨g,o,none⟩=some (.slice A 2 cc)) (H:Calls Tryz.prog 159 #[.pointer (some ⟨mb,0,none⟩),.pointer (some ⟨g,o,none⟩)] w fun r w'=>r=.returned (.bool b)/\R w') :
  Calls Tryz.prog 129 #[.pointer (some ⟨mb,0,none⟩),.pointer (some ⟨g,o,none⟩)] w fun r w'=>r=.returned (.bool b)/\R w':=by
 have HH:=hid H;clear H;go_enter Tryz.func129,Tryz.ntmps129
 go_wp2_with fail;refine HH.out.mono ?_;rintro r w1 ⟨rfl,g1⟩;go_wp2_with fail;go_ret;exact ⟨rfl,g1⟩
theorem Am (h:Mac w0 w mb sb db s) (hc:jJ w0 σ S ca co cv c) (hp:s.p=u.p) (hu:SOk S u) :
  Calls Tryz.prog 129 #[.pointer (some ⟨mb,0,none⟩),.pointer (some ⟨ca,co,none⟩)] w fun r w'=>r=.returned (.bool (u.addressed c).1)/\aZ w0 mb sb db w s w' (u.addressed c).2.p:=by
 obtain ⟨v0,h0,hA⟩:=hc.is.c0;have c0:w.cell? ⟨ca,co,none⟩=some v0:=hc.at_.now h h0;have hfx:∀ f∈σ.fs,w.heap[f.1]? = some f.2:=fun f hf=>(h.r.kp.block f.1 (aN (hc.fx f hf)) (by simp)).trans (hc.fx f hf);have hpts:=hc.ok.pts;unfold Ust.addressed;have hlen:=hc.ok.adr
 match hadr:c.fq,hA with
 | [],hA=>
  rcases hA with ⟨_,rfl⟩ | ⟨p,cc,cells,rfl,_,_⟩
  .refine (iM h c0).mono ?_;rintro r w1 ⟨rfl,g⟩;exact ⟨rfl,g.lT hp⟩
  .refine (iM h c0).mono ?_;rintro r w1 ⟨rfl,g⟩;exact ⟨rfl,g.lT hp⟩
 | [a],hA=>
  rcases hA with ⟨q,_⟩ | ⟨p,cc,cells,rfl,hm,hcs⟩
  .cases q
  .obtain ⟨va,ha,hce⟩:=hcs 0 _ rfl;have hh:=hfx _ hm
   have SK:=Fp (g:=p) (o:=0) h hp hu.ok ha (fun j v hv=>by
    have:=hce j v hv;simp only [World.cell?,hh]
    simpa using this) hfx (fun q e=>hpts q (by rw [hadr,e];simp))
   refine (Ap c0 SK).mono ?_;rintro r w1 ⟨rfl,k1⟩;exact ⟨rfl,((aZ.refl h).aj k1).lT hp⟩
 | [a,b],hA=>
  rcases hA with ⟨q,_⟩ | ⟨p,cc,cells,rfl,hm,hcs⟩
  .cases q
  .obtain ⟨va,ha,hca⟩:=hcs 0 _ rfl;obtain ⟨vb,hb,hcb⟩:=hcs 1 _ rfl;have hh:=hfx _ hm
   have SA:=Fp (g:=p) (o:=0) h hp hu.ok ha (fun j v hv=>by
    have:=hca j v hv;simp only [World.cell?,hh]
    simpa using this) hfx (fun q e=>hpts q (by rw [hadr,e];simp))
   have cb:∀ (j:Nat) (v:Value),vb[j]? = some v->w.cell? ⟨p,4+j,none⟩=some v:=fun j v hv=>by
    have:=hcb j v hv;simp only [World.cell?,hh];simpa using this
   have SB:=Fp (g:=p) (o:=4) h hp hu.ok hb cb hfx (fun q e=>hpts q (by rw [hadr,e];simp));have hrg:c.range < u.rg.length:=by rw [hu.rg];exact hc.ok.rng (by rw [hadr];rfl)
   obtain ⟨x,hx⟩:∃ x,u.rg[c.range]? = some x:=⟨_,Nv hrg⟩;have hxd:u.rg.getD c.range false=x:=by rw [List.getD_eq_getElem?_getD,hx];rfl
   have hsx:s.r.rg[c.range]? = some x:=by rw [show s.r.rg=u.rg from congrArg Pst.rg hp];exact hx
   have c1:w.cell? ⟨ca,co+1,none⟩=some (.int .i64 c.range):=hc.at_.now h hc.is.c1;have en:s.number=u.number:=congrArg Pst.number hp;show Calls _ _ _ _ fun r w'=>r=.returned (.bool (u.ranged c.range a b).1)/\aZ w0 mb sb db w s w' (u.ranged c.range a b).2.p;have fin:∀ (y z:Bool),(u.ranged c.range a b)=(y,{ u with rg:=u.rg.set c.range z })->Calls Tryz.prog 159 #[.pointer (some ⟨mb,0,none⟩),.pointer (some ⟨ca,co,none⟩)] w (fun r w'=>r=.returned (.bool y)/\aZ w0 mb sb db w s w' (s.p.rgd c.range z))->Calls Tryz.prog 129 #[.pointer (some ⟨mb,0,none⟩),.pointer (some ⟨ca,co,none⟩)] w fun r w'=>r=.returned (.bool (u.ranged c.range a b).1)/\aZ w0 mb sb db w s w' (u.ranged c.range a b).2.p:=fun y z e H=>by
    rw [e];refine Ao c0 (H.mono ?_);rintro r w1 ⟨rfl,g⟩;refine ⟨rfl,g.lT ?_⟩;unfold Pst.rgd;rw [hp]
    rfl
   cases b with
   | num n=>
    have hb:vb=jc 0 n:=hb;subst hb;have T:Two w ca co p c.range 0 n:=⟨⟨cc,c0⟩,c1,cb 0 _ rfl,cb 1 _ rfl⟩
    cases x with
    | true=>exact fin true (decide (u.number < n)) (by unfold Ust.ranged;rw [hxd];simp) (by rw [<-en];exact rP h T hsx)
    | false=>
     cases hsa:u.says a with
     | true=>exact fin true (decide (u.number < n)) (by unfold Ust.ranged;rw [hxd,hsa];simp) (by rw [<-en];rw [hsa] at SA;exact jY h T hsx SA)
     | false=>exact fin false false (by unfold Ust.ranged;rw [hxd,hsa];simp) (by rw [hsa] at SA;exact pH h T hsx SA)
   | last=>
    have hb:vb=jc 1 0:=hb;subst hb;have T:Two w ca co p c.range 1 0:=⟨⟨cc,c0⟩,c1,cb 0 _ rfl,cb 1 _ rfl⟩
    cases x with
    | true=>exact fin true (!u.says .last) (by unfold Ust.ranged;rw [hxd];simp) (uW h T (by omega) hsx SB)
    | false=>exact fin (u.says a) (u.says a) (by unfold Ust.ranged;rw [hxd];simp) (ql h T (by omega) hsx SA)
   | pat q=>
    obtain ⟨pb,g2,o1,o2,hb,_⟩:=hb;subst hb;have T:Two w ca co p c.range 2 0:=⟨⟨cc,c0⟩,c1,cb 0 _ rfl,cb 1 _ rfl⟩
    cases x with
    | true=>exact fin true (!u.says (.pat q)) (by unfold Ust.ranged;rw [hxd];simp) (uW h T (by omega) hsx SB)
    | false=>exact fin (u.says a) (u.says a) (by unfold Ust.ranged;rw [hxd];simp) (ql h T (by omega) hsx SA)
 | a::b::d::l,_=>rw [hadr] at hlen;simp at hlen
end
theorem Dv {H:List (Nat×Nat)} {i a g:Nat} (h:H[i]? = some (a,g)):(lU H)[i * 2]? = some (.int .i64 (a:Int))/\(lU H)[i * 2+1]? = some (.int .i64 (g:Int)):=by
 induction H generalizing i with
 | nil=>cases h
 | cons q H ih=>
  match i,h with
  | 0,h=>injection h with h;subst h;exact ⟨rfl,rfl⟩
  | i+1,h=>
   obtain ⟨h1,h2⟩:=ih (i:=i) h;constructor
   .rw [show (i+1) * 2=i * 2+2 by omega];exact h1
   .rw [show (i+1) * 2+1=i * 2+1+2 by omega];exact h2
theorem Bj (q:Ptn) (t:ByteArray):∀ (k fr:Nat) (s:Mc),(plcF q t k fr s).length<=k
 | 0,_,_=>Nw _
 | k+1,fr,s=>by
  unfold plcF;split
  .have:=Bj q t k ((ud q t fr s).dQ 1).toNat (ud q t fr s);simp;omega
  .simp
theorem rL {c:du} {sp:List UInt8} (hp:c.new.plain.length<=2000) (hh:c.di.length<=2000) (hs:sp.length<=4000):∀ (bs:List (Nat->Int)) (r:Rst),r.acc.length<=4000->(replL c sp bs r).acc.length<=20000000
 | [],r,h=>by show r.acc.length<=_;omega
 | b::bs,r,h=>by
  by_cases h1:r.cnt+1 < c.number
  .rw [qk h1];exact rL hp hh hs bs _ h
  .have hl:(r1R c sp b r).acc.length<=20000000:=by
    have hf:=oN c.new.plain sp b c.di 0;have hm:(c.new.plain.length+sp.length) * (c.di.length+1)<=6000 * 2001:=Ol (by omega) (by omega);unfold r1R;rw [Nu,Nu,Oe,Oi];omega
   by_cases h2:c.all=false\/4000 < (r1R c sp b r).acc.length
   .rw [qj h1 h2];exact hl
   .rw [Bg h1 h2];exact rL hp hh hs bs _ (by have:=not_or.1 h2;omega)
section
variable {w0 w w' w2:World} {mb sb db lo hi:Nat} {s s':Mst} {u:Ust} {σ:Sst} {S:fj} {ca co:Nat} {cv:List Value} {c:du} {q:Ptn}
theorem repl_t (h:Mac w0 w mb sb db s) (hc:jJ w0 σ S ca co cv c) (hx:c.what=115) (hp:s.p=u.p) (hu:SOk S u) :
  Calls Tryz.prog 63 #[.pointer (some ⟨mb,0,none⟩),.pointer (some ⟨ca,co,none⟩)] w (dB w0 mb sb db w s (u.replace c)):=by
 cases hpat:c.pat with
 | none=>exact absurd hpat (hc.ok.sp hx)
 | some q=>
  obtain ⟨hq,hho⟩:=hc.ok.pt q hpat;have hV:=hc.is.rest.c11;rw [hpat] at hV;obtain ⟨v,t,h11,h12,pb,g,o1,o2,rfl,rfl,f1,f2,hB⟩:=hV;obtain ⟨v15,h15,A,hcap,rfl,hol⟩:=hc.is.rest.c15;have l9:=hu.ok.sp;obtain ⟨RF,hRF⟩:∃ RF,RF=replL c u.space (q.C5 u.space) ⟨0,[],0,false⟩:=⟨_,rfl⟩;have hacc:=rL (c:=c) hc.ok.nw hc.ok.nh l9 (q.C5 u.space) ⟨0,[],0,false⟩ (NI _);rw [<-hRF] at hacc;refine Ga (T:=if RF.ok then RF.acc++u.space.drop RF.done else u.space) (ok:=RF.ok) h hc.at_ hc.is.rest.c18 hc.is.rest.c6 hc.is.rest.c7 (fun hn=>by rw [hu.fb];exact hc.ok.fl (.inr hn)) hp hu.ok ?_ ?_ (fun w2 k2=>?_)
  .unfold gH;rw [hpat];dsimp only;rw [<-hRF]
   cases RF.ok <;> rfl
  .split
   .rw [Nu,Oe];omega
   .omega
  .have kk:=h.r.kp.trans k2;have hfx:∀ f∈σ.fs,w2.heap[f.1]? = some f.2:=fun f hf=>(kk.block f.1 (aN (hc.fx f hf)) (by simp)).trans (hc.fx f hf);have cell:∀ (j:Nat) (v:Value),cv[j]? = some v->w2.cell? ⟨ca,co+j,none⟩=some v:=fun j v hv=>(kk.cell (p:=⟨ca,co+j,none⟩) hc.at_.lt (by simp)).trans (hc.at_.at_ j v hv);obtain ⟨g2,cc,hcd,h1,h2⟩:=MF hq (hB w2 (hfx _ f1) (hfx _ f2))
   have hR:Rp w2 ca (co+11) pb c.new.plain c.di c.all c.number:=⟨cell 11 _ h11,cell 14 _ hc.is.rest.c14,⟨A,hcap,cell 15 _ h15,fun i a g h=>by
    rcases hol with e | ⟨hb,cells,rfl,hm,ht⟩
    .rw [e] at h;cases h
    .have hh:=hfx _ hm;have hi:i < c.di.length:=(List.getElem?_eq_some_iff.1 h).1;obtain ⟨q1,q2⟩:=Dv h;rw [<-ht,Oy,Ny (by omega)] at q1 q2;refine ⟨hb,rfl,?_,?_⟩
     .simp only [World.cell?,hh];simpa using q1
     .simp only [World.cell?,hh];simpa using q2⟩,cell 16 _ hc.is.rest.c16,cell 17 _ hc.is.rest.c17⟩
   have hnD:q.n * (q.D+1)<=9000:=hq.dd;have hlen:(q.C5 u.space).length<=100000000:=by
    have:=Bj q (ba u.space) (((ba u.space).size+1) * (q.n * (q.D+1))+1) 0 mc0;have h2:((ba u.space).size+1) * (q.n * (q.D+1))<=4001 * 9000:=Ol (by rw [ax];omega) hnD;unfold Ptn.C5;omega
   refine (CN hR hcd h1 h2 (qT hq).bg hnD hq.g l9 (J8 hq u.space) (plcs_ok hq u.space) hho hc.ok.nw hc.ok.nh hc.ok.nb hlen).mono ?_;rintro r w3 ⟨k3,rfl⟩;exact ⟨k3,by rw [<-hRF]⟩
theorem LU (h:Mac w0 w mb sb db s) (hc:jJ w0 σ S ca co cv c) (hp:s.p=u.p) (hu:SOk S u) :
  Calls Tryz.prog 62 #[.pointer (some ⟨mb,0,none⟩),.pointer (some ⟨ca,co,none⟩)] w (dB w0 mb sb db w s (match (if c.fq.length=2/\c.neg=false/\u.rg.getD c.range false=true then .ok u else u.tell c.text.plain:RU) with
   | .error e=>.error e
   | .ok u1=>u1.aO)):=by
 obtain ⟨v0,h0,hA⟩:=hc.is.c0;have hsl:∃ A cc,v0=.slice A c.fq.length cc:=by
  rcases hA with ⟨e,rfl⟩ | ⟨p,cc,cells,rfl,_⟩
  .have:c.fq=[]:=List.map_eq_nil_iff.1 e;rw [this];exact ⟨none,0,rfl⟩
  .rw [N6];exact ⟨_,_,rfl⟩
 obtain ⟨A,cc,rfl⟩:=hsl;by_cases h2:c.fq.length=2
 .rw [h2] at h0
  cases hn:c.neg with
  | true=>
   rw [Nr (by simp)];exact DQ h hc.at_ hc.is.rest.c10 hc.ok.tx h0 (by rw [hc.is.c2,hn]) hp hu.ok
  | false=>
   have hrg:c.range < u.rg.length:=by rw [hu.rg];exact hc.ok.rng h2
   obtain ⟨x,hx⟩:∃ x,u.rg[c.range]? = some x:=⟨_,Nv hrg⟩;have hxd:u.rg.getD c.range false=x:=by rw [List.getD_eq_getElem?_getD,hx];rfl
   cases x with
   | true=>
    rw [Ny ⟨h2,rfl,hxd⟩];exact IM h hc.at_ hc.is.rest.c10 hc.ok.tx h0 (by rw [hc.is.c2,hn]) hc.is.c1 hx hp hu.ok
   | false=>
    rw [Nr (by rw [hxd];simp)];exact DP h hc.at_ hc.is.rest.c10 hc.ok.tx h0 (by rw [hc.is.c2,hn]) hc.is.c1 hx hp hu.ok
 .rw [Nr (fun q=>h2 q.1)];exact DR h hc.at_ hc.is.rest.c10 hc.ok.tx h0 h2 hc.ok.adr hp hu.ok
def fo (w0:World) (mb sb db:Nat) (S:fj) (ca co:Nat) (c:du):Prop:=
 ∃ f i,Instr.findNow (.int .u8) (.int .u8 c.what) (tabE 0 ij) 0=some (some (i,.func (.func f) #[] #[]))/\Enters f /\
  ∀ (w:World) (s:Mst) (u:Ust),Mac w0 w mb sb db s->s.p=u.p->SOk S u->Calls Tryz.prog f #[.pointer (some ⟨mb,0,none⟩),.pointer (some ⟨ca,co,none⟩)] w (dB w0 mb sb db w s (u.fW S.quiet c))
theorem fM {f:Nat} (hf:ij.find? (fun q=>c.what == q.1)=some (c.what,f)) (he:Enters f) (ho:∀ (w:World) (s:Mst) (u:Ust),Mac w0 w mb sb db s->s.p=u.p->SOk S u->Calls Tryz.prog f #[.pointer (some ⟨mb,0,none⟩),.pointer (some ⟨ca,co,none⟩)] w (dB w0 mb sb db w s (u.fW S.quiet c))):fo w0 mb sb db S ca co c:=by
 obtain ⟨j,hj⟩:=nM c.what ij 0 0 c.what f hf;exact ⟨f,j,hj,he,ho⟩
theorem Lw (hc:jJ w0 σ S ca co cv c) (hx:c.what=123):fo w0 mb sb db S ca co c:=by
 refine fM (f:=57) (by rw [hx];rfl) (fun p q w=>by simp [go_sem]) (fun w s u h hp hu=>?_);unfold Ust.fW;rw [Ny hx];exact enter_t h hp
theorem deed_98 (hc:jJ w0 σ S ca co cv c) (hx:c.what=98):fo w0 mb sb db S ca co c:=by
 refine fM (f:=58) (by rw [hx];rfl) (fun p q w=>by simp [go_sem]) (fun w s u h hp hu=>?_);unfold Ust.fW;rw [Nr (by rw [hx];omega)];rw [Ny hx];exact Mb h hc.at_ hc.is.rest.c5 hp
theorem LC (hc:jJ w0 σ S ca co cv c) (hx:c.what=116):fo w0 mb sb db S ca co c:=by
 refine fM (f:=59) (by rw [hx];rfl) (fun p q w=>by simp [go_sem]) (fun w s u h hp hu=>?_);unfold Ust.fW;rw [Nr (by rw [hx];omega)];rw [Nr (by rw [hx];omega)];rw [Ny hx];exact DX h hc.at_ hc.is.rest.c5 hp
theorem deed_97 (hc:jJ w0 σ S ca co cv c) (hx:c.what=97):fo w0 mb sb db S ca co c:=by
 refine fM (f:=60) (by rw [hx];rfl) (fun p q w=>by simp [go_sem]) (fun w s u h hp hu=>?_);unfold Ust.fW;iterate 3 rw [Nr (by rw [hx];omega)]
 rw [Ny hx];exact bring_t h hc.at_ hc.is.rest.c10 hp hu.ok
theorem LK (hc:jJ w0 σ S ca co cv c) (hx:c.what=105):fo w0 mb sb db S ca co c:=by
 refine fM (f:=61) (by rw [hx];rfl) (fun p q w=>by simp [go_sem]) (fun w s u h hp hu=>?_);unfold Ust.fW;iterate 4 rw [Nr (by rw [hx];omega)]
 rw [Ny hx];exact KS h hc.at_ hc.is.rest.c10 hc.ok.tx hp hu.ok
theorem deed_99 (hc:jJ w0 σ S ca co cv c) (hx:c.what=99):fo w0 mb sb db S ca co c:=by
 refine fM (f:=62) (by rw [hx];rfl) (fun p q w=>by simp [go_sem]) (fun w s u h hp hu=>?_);unfold Ust.fW;iterate 5 rw [Nr (by rw [hx];omega)]
 rw [Ny hx];exact LU h hc hp hu
theorem LD (hc:jJ w0 σ S ca co cv c) (hx:c.what=115):fo w0 mb sb db S ca co c:=by
 refine fM (f:=63) (by rw [hx];rfl) (fun p q w=>by simp [go_sem]) (fun w s u h hp hu=>?_);unfold Ust.fW;iterate 6 rw [Nr (by rw [hx];omega)]
 rw [Ny hx];exact repl_t h hc hx hp hu
theorem Lx (hc:jJ w0 σ S ca co cv c) (hx:c.what=121):fo w0 mb sb db S ca co c:=by
 refine fM (f:=64) (by rw [hx];rfl) (fun p q w=>by simp [go_sem]) (fun w s u h hp hu=>?_);unfold Ust.fW;iterate 7 rw [Nr (by rw [hx];omega)]
 rw [Ny hx];exact DH h hc.at_ hc.is.rest.c20 hc.is.rest.c22 hc.ok.yl hc.ok.yy hp hu.ok
theorem LN (hc:jJ w0 σ S ca co cv c) (hx:c.what=100):fo w0 mb sb db S ca co c:=by
 refine fM (f:=65) (by rw [hx];rfl) (fun p q w=>by simp [go_sem]) (fun w s u h hp hu=>?_);unfold Ust.fW;iterate 8 rw [Nr (by rw [hx];omega)]
 rw [Ny hx];exact drop_t h hp hu.ok
theorem deed_68 (hc:jJ w0 σ S ca co cv c) (hx:c.what=68):fo w0 mb sb db S ca co c:=by
 refine fM (f:=66) (by rw [hx];rfl) (fun p q w=>by simp [go_sem]) (fun w s u h hp hu=>?_);unfold Ust.fW;iterate 9 rw [Nr (by rw [hx];omega)]
 rw [Ny hx];exact dropFirst_t h hp hu.ok
theorem LM (hc:jJ w0 σ S ca co cv c) (hx:c.what=103):fo w0 mb sb db S ca co c:=by
 refine fM (f:=67) (by rw [hx];rfl) (fun p q w=>by simp [go_sem]) (fun w s u h hp hu=>?_);unfold Ust.fW;iterate 10 rw [Nr (by rw [hx];omega)]
 rw [Ny hx];exact get_t h hp
theorem deed_71 (hc:jJ w0 σ S ca co cv c) (hx:c.what=71):fo w0 mb sb db S ca co c:=by
 refine fM (f:=68) (by rw [hx];rfl) (fun p q w=>by simp [go_sem]) (fun w s u h hp hu=>?_);unfold Ust.fW;iterate 11 rw [Nr (by rw [hx];omega)]
 rw [Ny hx];exact zF h hp hu.ok
theorem LL (hc:jJ w0 σ S ca co cv c) (hx:c.what=104):fo w0 mb sb db S ca co c:=by
 refine fM (f:=69) (by rw [hx];rfl) (fun p q w=>by simp [go_sem]) (fun w s u h hp hu=>?_);unfold Ust.fW;iterate 12 rw [Nr (by rw [hx];omega)]
 rw [Ny hx];exact hold_t h hp
theorem deed_72 (hc:jJ w0 σ S ca co cv c) (hx:c.what=72):fo w0 mb sb db S ca co c:=by
 refine fM (f:=70) (by rw [hx];rfl) (fun p q w=>by simp [go_sem]) (fun w s u h hp hu=>?_);unfold Ust.fW;iterate 13 rw [Nr (by rw [hx];omega)]
 rw [Ny hx];exact xz h hp hu.ok
theorem Ly (hc:jJ w0 σ S ca co cv c) (hx:c.what=120):fo w0 mb sb db S ca co c:=by
 refine fM (f:=71) (by rw [hx];rfl) (fun p q w=>by simp [go_sem]) (fun w s u h hp hu=>?_);unfold Ust.fW;iterate 14 rw [Nr (by rw [hx];omega)]
 rw [Ny hx];exact swap_t h hp
theorem LI (hP:Prg w0 lo hi sb σ S) (hc:jJ w0 σ S ca co cv c) (hx:c.what=110):fo w0 mb sb db S ca co c:=by
 refine fM (f:=72) (by rw [hx];rfl) (fun p q w=>by simp [go_sem]) (fun w s u h hp hu=>?_);unfold Ust.fW;iterate 15 rw [Nr (by rw [hx];omega)]
 rw [Ny hx];exact (by rw [<-hP.pg.qt];exact Dg h hP.sc hp hu.ok)
theorem deed_78 (hP:Prg w0 lo hi sb σ S) (hc:jJ w0 σ S ca co cv c) (hx:c.what=78):fo w0 mb sb db S ca co c:=by
 refine fM (f:=73) (by rw [hx];rfl) (fun p q w=>by simp [go_sem]) (fun w s u h hp hu=>?_);unfold Ust.fW;iterate 16 rw [Nr (by rw [hx];omega)]
 rw [Ny hx];exact (by rw [<-hP.pg.qt];exact xi h hP.sc hp hu.ok)
theorem LH (hc:jJ w0 σ S ca co cv c) (hx:c.what=112):fo w0 mb sb db S ca co c:=by
 refine fM (f:=74) (by rw [hx];rfl) (fun p q w=>by simp [go_sem]) (fun w s u h hp hu=>?_);unfold Ust.fW;iterate 17 rw [Nr (by rw [hx];omega)]
 rw [Ny hx];exact print_t h hp hu.ok
theorem deed_80 (hc:jJ w0 σ S ca co cv c) (hx:c.what=80):fo w0 mb sb db S ca co c:=by
 refine fM (f:=75) (by rw [hx];rfl) (fun p q w=>by simp [go_sem]) (fun w s u h hp hu=>?_);unfold Ust.fW;iterate 18 rw [Nr (by rw [hx];omega)]
 rw [Ny hx];exact uX h hp hu.ok
theorem LJ (hc:jJ w0 σ S ca co cv c) (hx:c.what=108):fo w0 mb sb db S ca co c:=by
 refine fM (f:=76) (by rw [hx];rfl) (fun p q w=>by simp [go_sem]) (fun w s u h hp hu=>?_);unfold Ust.fW;iterate 19 rw [Nr (by rw [hx];omega)]
 rw [Ny hx];exact list_t h hp hu.ok
theorem deed_61 (hP:Prg w0 lo hi sb σ S) (hc:jJ w0 σ S ca co cv c) (hx:c.what=61):fo w0 mb sb db S ca co c:=by
 refine fM (f:=77) (by rw [hx];rfl) (fun p q w=>by simp [go_sem]) (fun w s u h hp hu=>?_);unfold Ust.fW;iterate 20 rw [Nr (by rw [hx];omega)]
 rw [Ny hx];exact ur h hP.pw hp hu.ok
theorem LF (hP:Prg w0 lo hi sb σ S) (hc:jJ w0 σ S ca co cv c) (hx:c.what=113):fo w0 mb sb db S ca co c:=by
 refine fM (f:=78) (by rw [hx];rfl) (fun p q w=>by simp [go_sem]) (fun w s u h hp hu=>?_);unfold Ust.fW;iterate 21 rw [Nr (by rw [hx];omega)]
 rw [Ny hx];exact (by rw [<-hP.pg.qt];exact quit_t h hP.sc hc.at_ hc.is.rest.c8 hp hu.ok)
theorem Lz (hc:jJ w0 σ S ca co cv c) (hx:c.what=119):fo w0 mb sb db S ca co c:=by
 refine fM (f:=79) (by rw [hx];rfl) (fun p q w=>by simp [go_sem]) (fun w s u h hp hu=>?_);unfold Ust.fW;iterate 22 rw [Nr (by rw [hx];omega)]
 rw [Ny hx];exact ui h hc.at_ hc.is.rest.c7 hp hu.ok (by rw [hu.fb];exact hc.ok.fl (.inl hx))
end
