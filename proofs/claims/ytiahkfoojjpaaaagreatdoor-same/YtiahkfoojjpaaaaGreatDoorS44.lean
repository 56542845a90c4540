import Derived.Test.YtiahkfoojjpaaaaGreatDoorS43
set_option maxRecDepth 100000
set_option maxHeartbeats 16000000
set_option linter.all false
namespace Go.Proofs.YtiahkfoojjpaaaaGreatDoor
open Go.RowKit Go.Shelf
theorem JC{x:ByteArray}(h:x.size=0):(x.toList==[])=true:=by
 have:x=ba []:=Ec (Rb h);rw[this,ByteArray.toList_eq,eN]
 rfl
theorem DE{x:ByteArray}(h:x.size≠0):(x.toList==[])=false:=by
 rw[ByteArray.toList_eq,Qz];intro e;exact h (by show x.data.toList.length=0;rw[e];rfl)
def jd(c:aH)(u:Ust):RU:=if c.name.size=0 then .ok u else u.write c.file u.space
def afterT(c:aH):RU->RU
 | .error e=>.error e
 | .ok u=>jd c u
theorem ni(c:aH)(u:Ust):u.replace c=(match oC c u.space with
  | none=>.ok u
  | some t=>if 4000<t.length then .error (8,u) else afterT c (if c.print then ({ u with space:=t,gU:=true}:Ust).tell t else .ok { u with space:=t,gU:=true})):=by
 unfold Ust.replace
 cases oC c u.space with
 | none=>rfl
 | some t=>
  dsimp only;split
  .rfl
  .cases(if c.print=true then ({ u with space:=t,gU:=true}:Ust).tell t else .ok { u with space:=t,gU:=true}:RU)<;>rfl
section
variable {w0 w w':World}{mb sb db lo hi:Nat}{s s':Mst}{u:Ust}{σ:Sst}{ca co:Nat}{cv:List Value}
theorem IK{c:aH}{T:List UInt8}{ok:Bool}(h:Mac w0 w mb sb db s)(hc:Cu w0 ca co cv)(h18:cv[18]? = some (.bool c.print))(h6:cv[6]? = some (.string c.name))(h7:cv[7]? = some (.int .i64 c.file))(hfile:c.name.size≠0->c.file<u.fb.length)(hp:s.p=u.p)(hu:UOk u)(HRP:oC c u.space=if ok then some T else none)(hTl:T.length<=30000000)(H:∀w2,Kp [] w w2->Calls Tryz.prog 114 #[.string (ba u.space),.pointer (some ⟨ca,co+11,none⟩)] w2 fun r w'=>Kp [] w2 w'/\r=.returned (.tuple #[.string (ba T),.bool ok])):Calls Tryz.prog 63 #[.pointer (some ⟨mb,0,none⟩),.pointer (some ⟨ca,co,none⟩)] w (dJ w0 mb sb db w s (u.replace c)):=by
 obtain⟨RES,hRES⟩:∃RES,RES=u.replace c:=⟨_,rfl⟩;rw[<-hRES];rw[ni,HRP] at hRES;have HRE:=hid hRES;have HM:=hid h;have HP:=hid hp;have HU:=hid hu;obtain⟨sp,hsp⟩:∃sp,sp=u.space:=⟨_,rfl⟩;rw[<-hsp] at H;have e9:s.space=ba sp:=by rw[hsp];exact congrArg Pst.space hp
 have c9:=h.b.at_ 9 _ rfl;rw[e9] at c9;have C9:=hid c9;have HH:=hid H;have HFI:Hid (∀u':Ust,u'.fb=u.fb->c.name.size≠0->c.file<u'.fb.length):=hid (fun u' e q=>by rw[e];exact hfile q);clear H c9 h hRES hp hu hfile HRP hsp e9;go_enter Tryz.func63,Tryz.ntmps63
 go_wp2_with fail;rename_i K1 hK1;have HK1:=hid hK1;clear hK1;refine wp_region_noPanic ?_;refine wp_region_held (S:=fun w':World=>w'.cell? ⟨mb,9,none⟩=some (.string (ba sp))) (by kernel_rfl) ?_
 change wpAnyH _ _ _ _ _ _ _ _ w.drew
 have hS:(fun w':World=>w'.cell? ⟨mb,9,none⟩=some (.string (ba sp))) w.drew:=C9.out;refine wpAnyH_take (i:=0) (v:=?v0a) rfl (by kernel_rfl) (by kernel_rfl) (by kernel_rfl) (fun _ _ _ h=>h) (Or.inl ⟨by rfl,?y0a⟩) hS ?_
 case y0a=>(intro w hSw;(try dsimp only at hSw);go_simp;(try with_reducible rfl))
 simp only[Qt,Qr,Act.put,Qq,Qu,Qv];refine wpAnyH_take (i:=1) (v:=?v1a) rfl (by kernel_rfl) (by kernel_rfl) (by kernel_rfl) (fun _ _ _ h=>h) (Or.inl ⟨by rfl,?y1a⟩) hS ?_
 case y1a=>(intro w hSw;(try dsimp only at hSw);go_simp;(try with_reducible rfl))
 simp only[Qt,Qs,Qr,Act.put,Qq,Qu,Qv];refine wpAnyH_take (i:=2) (v:=?v2a) rfl (by kernel_rfl) (by kernel_rfl) (by kernel_rfl) (fun _ _ _ h=>h) (Or.inl ⟨by rfl,?y2a⟩) hS ?_
 case y2a=>(intro w hSw;(try dsimp only at hSw);go_simp;(try with_reducible rfl))
 simp only[Qt,Qs,Qr,Act.put,Qq,Qu,Qv];refine wpAnyH_take (i:=3) (v:=?v3a) rfl (by kernel_rfl) (by kernel_rfl) (by kernel_rfl) (fun _ _ _ h=>h) (Or.inl ⟨by rfl,?y3a⟩) hS ?_
 case y3a=>(intro w hSw;(try dsimp only at hSw);go_simp;(try with_reducible rfl))
 simp only[Qt,Qs,Qr,Act.put,Qq,Qu,Qv];refine wpAnyH_take (i:=4) (v:=?v4a) rfl (by kernel_rfl) (by kernel_rfl) (by kernel_rfl) (fun _ _ _ h=>h) (Or.inl ⟨by rfl,?y4a⟩) hS ?_
 case y4a=>(intro w hSw;(try dsimp only at hSw);go_simp;(try with_reducible rfl))
 simp only[Qt,Qs,Qr,Act.put,Qq,Qu,Qv];refine wpAnyH_take (i:=5) (v:=?v5a) rfl (by kernel_rfl) (by kernel_rfl) (by kernel_rfl) (fun _ _ _ h=>h) (Or.inl ⟨by rfl,?y5a⟩) hS ?_
 case y5a=>(intro w hSw;(try dsimp only at hSw);go_simp;(try with_reducible rfl))
 simp only[Qt,Qs,Qr,Act.put,Qq,Qu,Qv];refine wpAnyH_take (i:=6) (v:=?v6a) rfl (by kernel_rfl) (by kernel_rfl) (by kernel_rfl) (fun _ _ _ h=>h) (Or.inl ⟨by rfl,?y6a⟩) hS ?_
 case y6a=>(intro w hSw;(try dsimp only at hSw);go_simp;(try with_reducible rfl))
 simp only[Qt,Qs,Qr,Act.put,Qq,Qu,Qv];refine ry (i:=7) (by kernel_rfl) rfl (fun K hK=>?_);go_simp;refine(HH.out w.drew (Kp.drew [] w)).mono ?_;rintro e w2 ⟨k2,rfl⟩;have k02:=(Kp.drew [] w).trans k2;have hS2:(fun w':World=>w'.cell? ⟨mb,9,none⟩=some (.string (ba sp))) w2:=(k02.cell (p:=⟨mb,9,none⟩) (World.block_lt_of_cell? _ _ C9.out) (by simp)).trans C9.out;clear hS;dsimp only;refine hK.out _ _ hS2 ?_;clear hK K;have hS:=hS2;refine wpAnyH_take (i:=8) (v:=?v8a) rfl (by kernel_rfl) (by kernel_rfl) (by kernel_rfl) (fun _ _ _ h=>h) (Or.inl ⟨by rfl,?y8a⟩) hS ?_
 case y8a=>(intro w hSw;(try dsimp only at hSw);go_simp;(try with_reducible rfl))
 simp only[Qt,Qs,Qr,Act.put,Qq,Qu,Qv];refine wpAnyH_take (i:=9) (v:=?v9a) rfl (by kernel_rfl) (by kernel_rfl) (by kernel_rfl) (fun _ _ _ h=>h) (Or.inl ⟨by rfl,?y9a⟩) hS ?_
 case y9a=>(intro w hSw;(try dsimp only at hSw);go_simp;(try with_reducible rfl))
 simp only[Qt,Qs,Qr,Act.put,Qq,Qu,Qv];refine wpAnyH_take (i:=10) (v:=?v10a) rfl (by kernel_rfl) (by kernel_rfl) (by kernel_rfl) (fun _ _ _ h=>h) (Or.inl ⟨by rfl,?y10a⟩) hS ?_
 case y10a=>(intro w hSw;(try dsimp only at hSw);go_simp;(try with_reducible rfl))
 simp only[Qt,Qs,Qr,Act.put,Qq,Qu,Qv];refine wpAnyH_take (i:=11) (v:=?v11a) rfl (by kernel_rfl) (by kernel_rfl) (by kernel_rfl) (fun _ _ _ h=>h) (Or.inl ⟨by rfl,?y11a⟩) hS ?_
 case y11a=>(intro w hSw;(try dsimp only at hSw);go_simp;(try with_reducible rfl))
 simp only[Qt,Qs,Qr,Act.put,Qq,Qu,Qv];refine wpAnyH_take (i:=12) (v:=?v12a) rfl (by kernel_rfl) (by kernel_rfl) (by kernel_rfl) (fun _ _ _ h=>h) (Or.inl ⟨by rfl,?y12a⟩) hS ?_
 case y12a=>(intro w hSw;(try dsimp only at hSw);go_simp;(try with_reducible rfl))
 simp only[Qt,Qs,Qr,Act.put,Qq,Qu,Qv];refine wpAnyH_done (by kernel_rfl) ?_ _;refine NoPanic.normal ?_;refine HK1.out _ _ ?_;clear HK1 K1 hS hS2;have M2:=hid (HM.out.aj k02)
 cases hok:ok with
 | false=>
  rw[hok,Qw (by simp)] at HRE;go_wp2_with fail;refine bodyPost_ret (results_none rfl _ _ _) rfl ?_;rw[HRE.out];exact⟨rfl,((di.refl M2.out).pre k02).oE HP.out⟩
 | true=>
  rw[hok,QB rfl] at HRE;have hRE:=HRE.out;clear HRE;dsimp only at hRE;have zT:=ay T;by_cases hbig:4000<T.length
  .rw[QB hbig] at hRE;have HRE:=hid hRE;have HB:=hid (Ab (w:=w2) (t:=ba T) (by omega));clear hRE;go_wp2_with fail;refine HB.out.mono ?_;rintro e w3 ⟨rfl,rfl⟩;go_wp2_with fail;refine⟨rfl,?_⟩;rw[HRE.out];exact⟨rfl,((di.refl M2.out).pre k02).oE HP.out⟩
  rw[Qw hbig] at hRE;have HB:=hid (Aa (w:=w2) (t:=ba T) (by omega));obtain⟨u5,hu5⟩:∃u5:Ust,u5={ u with space:=T,gU:=true}:=⟨_,rfl⟩;rw[<-hu5] at hRE;have U5:Hid (UOk u5):=hid (by rw[hu5];exact⟨by show T.length<=4000;omega,HU.out.hd,HU.out.ct,HU.out.ot,HU.out.fb,HU.out.bt,HU.out.bl,HU.out.lf⟩);have S5:Hid (u5.space=T):=hid (by rw[hu5]);have FB5:Hid (u5.fb=u.fb):=hid (by rw[hu5]);have HRE:=hid hRE;clear hRE;obtain⟨w3,hw3⟩:∃w3,w3=w2:=⟨_,rfl⟩;rw[<-hw3] at M2 HB k02 ⊢;clear hw3 k2;have d9:=M2.out.b.at_ 9 _ rfl;have f9:=M2.out.b.free 9;have M4:Hid (Mac w0 (w3.setCell ⟨mb,9,none⟩ (.string (ba T))) mb sb db { s with space:=ba T}):=hid (M2.out.set 9 _ (by omega) rfl rfl);have d15:=M4.out.b.at_ 15 _ rfl;have f15:=M4.out.b.free 15;have M5:Hid (Mac w0 ((w3.setCell ⟨mb,9,none⟩ (.string (ba T))).setCell ⟨mb,15,none⟩ (.bool true)) mb sb db { s with space:=ba T,gU:=true}):=hid (M4.out.set 15 _ (by omega) rfl rfl)
  have P5:Hid (({ s with space:=ba T,gU:=true}:Mst).p=u5.p):=hid (by
   show({ s.p with space:=ba T,gU:=true}:Pst)=_;rw[HP.out,hu5]
   rfl)
  have G5:Hid (Gr mb db w s.r ((w3.setCell ⟨mb,9,none⟩ (.string (ba T))).setCell ⟨mb,15,none⟩ (.bool true)) s.r):=hid ((Gr.dj k02 (fun _ e=>by cases e)).trans ((Gr.set _ _ _ _).trans (Gr.set _ _ _ _)));have o18:=hc.now M5.out h18;have hT4:T.length<=4000:=by omega
  clear hu5 hbig;go_wp2_with fail;refine HB.out.mono ?_;rintro e w9 ⟨rfl,rfl⟩;clear M2 M4
  cases hpr:c.print
  .rw[hpr] at o18;have EQ:Hid (RES=jd c u5):=hid (by rw[HRE.out,hpr,Qw (by simp)];rfl);clear HRE;have o6:=hc.now M5.out h6;have o7:=hc.now M5.out h7;by_cases hnm:c.name.size=0
   .have q6:=JC hnm;have RE:Hid (RES=.ok u5):=hid (by rw[EQ.out,jd,QB hnm]);clear hnm;go_wp2_with fail;go_end0;rw[RE.out];exact⟨rfl,_,P5.out,M5.out,G5.out⟩
   .have q6:=DE hnm;have WT:=Au (t:=u5.space) (M5.out.aj (Kp.drew [] _)) P5.out U5.out (HFI.out u5 FB5.out hnm) (by have:=U5.out.sp;omega);have RE:Hid (RES=u5.write c.file u5.space):=hid (by rw[EQ.out,jd,Qw hnm]);have o9:=M5.out.b.at_ 9 _ rfl;rw[S5.out] at WT RE;clear hnm;obtain⟨RW,hRW⟩:∃RW,RW=u5.write c.file T:=⟨_,rfl⟩;rw[<-hRW] at WT RE;have HWT:=hid WT;clear WT hRW
    cases RW with
    | error q=>
     obtain⟨E,u9⟩:=q;go_wp2_with fail;go_region_dies
     all_goals
      refine HWT.out.mono ?_;rintro r w9 ⟨rfl,s9,e9,m9,g9⟩;refine⟨rfl,?_⟩;rw[RE.out];exact⟨rfl,s9,e9,m9,G5.out.trans ((Gr.dj (Kp.drew [] _) (fun _ e=>by cases e)).trans g9)⟩
    | ok u9=>
     go_wp2_with fail;go_region_with (go_at_call 116;refine HWT.out.mono ?_;rintro r w9 ⟨rfl,g9⟩)
     all_goals
      go_wp2_with fail;go_end0;rw[RE.out];obtain⟨s9,e9,m9,g9⟩:=g9;exact⟨rfl,s9,e9,m9,G5.out.trans ((Gr.dj (Kp.drew [] _) (fun _ e=>by cases e)).trans g9)⟩
  .rw[hpr] at o18;have hRE:=HRE.out;rw[hpr,QB rfl] at hRE;have TT:=js (t:=T) (M5.out.aj (Kp.drew [] _)) P5.out U5.out (by omega);obtain⟨RT,hRT⟩:∃RT,RT=u5.tell T:=⟨_,rfl⟩;rw[<-hRT] at TT hRE
   have OKT:Hid (∀u6,RT=.ok u6->UOk u6/\u6.fb=u.fb):=hid (fun u6 q=>by
    rw[hRT] at q;obtain⟨q1,q2⟩:=U5.out.tell q;refine⟨q1,?_⟩;rw[q2]
    exact FB5.out)
   have HTT:=hid TT;have HRE2:=hid hRE;have g9:=M5.out.b.at_ 9 _ rfl;clear HRE hRE TT hRT
   cases RT with
   | error q=>
    obtain⟨E,u6⟩:=q;go_wp2_with fail;go_region_dies
    all_goals
     refine HTT.out.mono ?_;rintro r w6 ⟨rfl,s6,e6,m6,g6⟩;refine⟨rfl,?_⟩;rw[HRE2.out];exact⟨rfl,s6,e6,m6,G5.out.trans ((Gr.dj (Kp.drew [] _) (fun _ e=>by cases e)).trans g6)⟩
   | ok u6=>
    obtain⟨hu6,hf6⟩:=OKT.out u6 rfl;have U6:=hid hu6;have FB:=hid hf6;clear hu6 hf6 OKT;go_wp2_with fail;go_region_with (go_at_call 112;refine HTT.out.mono ?_;rintro r w6 ⟨rfl,g6⟩)
    obtain⟨s6,e6,m6,gr6⟩:=g6;have M6:=hid m6;have P6:=hid e6;have G6:Hid (Gr mb db w s.r w6 s6.r):=hid (G5.out.trans ((Gr.dj (Kp.drew [] _) (fun _ e=>by cases e)).trans gr6));have EQ:Hid (RES=jd c u6):=hid HRE2.out;clear HRE2 m6 e6 gr6 G5 M5 P5 o18 g9 d9 f9 d15 f15;have o6:=hc.now M6.out h6;have o7:=hc.now M6.out h7;by_cases hnm:c.name.size=0
    .have q6:=JC hnm;have RE:Hid (RES=.ok u6):=hid (by rw[EQ.out,jd,QB hnm]);clear hnm;go_wp2_with fail;go_end0;rw[RE.out];exact⟨rfl,_,P6.out,M6.out,G6.out⟩
    .have q6:=DE hnm;have WT:=Au (t:=u6.space) (M6.out.aj (Kp.drew [] _)) P6.out U6.out (HFI.out u6 FB.out hnm) (by have:=U6.out.sp;omega);have RE:Hid (RES=u6.write c.file u6.space):=hid (by rw[EQ.out,jd,Qw hnm]);have o9:=M6.out.b.at_ 9 _ rfl;have e9:s6.space=ba u6.space:=congrArg Pst.space P6.out;rw[e9] at o9;clear e9;clear hnm;obtain⟨RW,hRW⟩:∃RW,RW=u6.write c.file u6.space:=⟨_,rfl⟩;rw[<-hRW] at WT RE;have HWT:=hid WT;clear WT hRW
     cases RW with
     | error q=>
      obtain⟨E,u9⟩:=q;go_wp2_with fail;go_region_dies
      all_goals
       refine HWT.out.mono ?_;rintro r w9 ⟨rfl,s9,e9,m9,g9⟩;refine⟨rfl,?_⟩;rw[RE.out];exact⟨rfl,s9,e9,m9,G6.out.trans ((Gr.dj (Kp.drew [] _) (fun _ e=>by cases e)).trans g9)⟩
     | ok u9=>
      go_wp2_with fail;go_region_with (go_at_call 116;refine HWT.out.mono ?_;rintro r w9 ⟨rfl,g9⟩)
      all_goals
       go_wp2_with fail;go_end0;rw[RE.out];obtain⟨s9,e9,m9,g9⟩:=g9;exact⟨rfl,s9,e9,m9,G6.out.trans ((Gr.dj (Kp.drew [] _) (fun _ e=>by cases e)).trans g9)⟩
end
