/- What the claim needs of: HV. -/
import Derived.Test.YtiahkfoojjpaaaaGreatDoorW48
import Derived.Test.YtiahkfoojjpaaaaGreatDoorW49
import Derived.Test.YtiahkfoojjpaaaaGreatDoorW50
import Derived.Test.YtiahkfoojjpaaaaGreatDoorW30
set_option maxRecDepth 100000
set_option maxHeartbeats 16000000
set_option linter.unusedVariables false
set_option linter.unusedSimpArgs false
namespace Go.Proofs.YtiahkfoojjpaaaaGreatDoor
open Go.RowKit
section
variable {w0 w w' w2:World} {mb sb db lo hi eb:Nat} {s s':Mst} {u:Ust} {σ:Sst} {S:eF}
theorem De (src:ByteArray) (inp:List UInt8) (A:Option Addr) (n c:Nat) (z:Nat->Int) (w:World) (hin:inp.length<=140737488355328) (hn:n < 9223372036854775808) (N:yq w A n z) (hw:Nm w) (hpw:Pow w) :
  Calls Tryz.prog 4 #[.string src,.string (ba inp),.slice A n c] w fun e w'=>e=.returned (.bool true)/\Kp [] w w':=by
 have HW:=hid (works_t hw hpw);have HC:Hid (∀ w1,Kp [] w w1->Calls Tryz.prog 9 #[.string src] w1 (CompO w1 (scrE src))):=hid (fun w1 k1=>xV src (hw.aj k1 (by simp)));have HPW:Hid (∀ w1,Kp [] w w1->Pow w1):=hid (fun w1 k1=>hpw.aj k1);have HN:=hid N;have HIN:=hid hin;clear hw hpw N hin;go_enter Tryz.func4,Tryz.ntmps4
 go_wp2_with fail;refine HW.out.mono ?_;rintro r w1 ⟨rfl,k1⟩;clear HW
 cases hS:scrE src with
 | error q=>
  obtain ⟨E,k⟩:=q;have hE:=AW hS;have hq:((E:Int) == 0)=false:=by rw [Nr];omega
  have H:=HC.out w1 k1;rw [hS] at H;replace H:=hid H;clear HC hS;go_wp2_with fail;refine H.out.mono ?_;rintro r w2 ⟨rfl,k2⟩;go_wp2_with fail;go_ret;exact ⟨rfl,k1.trans k2⟩
 | ok S=>
  have H:=HC.out w1 k1;rw [hS] at H;replace H:=hid H;have HSS:=hid hS;clear HC hS;go_wp2_with fail;refine H.out.mono ?_;rintro r w2 ⟨sb,rfl,hg⟩;obtain ⟨lo,hi,σ,hP,k2⟩:=Mu hg HSS.out (HPW.out w1 k1);have HP:=hid hP;have HST:=hid (yz hP (Kp.refl [] w2));clear H hg hP;go_wp2_with fail;refine HST.out.mono ?_;rintro r w3 ⟨ex,mx,dx,sx,rfl,X3,k3,_⟩;have HX:=hid X3;have HST2:=hid (yz HP.out k3);clear HST X3;go_wp2_with fail;refine HST2.out.mono ?_;rintro r w4 ⟨ey,my,dy,sy,rfl,Y4,k4,hy4⟩;have X4:=HX.out.aj k4;have dis4:∀ p,Ed.blk ex mx dx sx p->¬ Ed.blk ey my dy sy p:=fun p hp hq=>by
   have:=HX.out.lt hp;have:=hy4 p hq;omega
  have HPW2:=hid (HPW.out w1 k1);obtain ⟨u0,hu0⟩:∃ u0,u0=pH S.ahead S.names.length S.ranges:=⟨_,rfl⟩;rw [<-hu0] at X4 Y4;have PC:Pcs S inp.length (u0.feed S inp) u0 [] inp:=by rw [hu0];exact Pcs.first HP.out.ok _ _
  have hb0:u0.over=false->u0.left.length+inp.length+u0.number<=281474976710656:=fun q=>by
   have:=PC.lf q;have:=HIN.out;omega
  have HFD:=hid (xJ (d:=inp) HP.out X4 hb0);have FB:=zJ (d:=inp) HP.out.ok PC.bt hb0;obtain ⟨a,ha⟩:∃ a,a=u0.feed S inp:=⟨_,rfl⟩;rw [<-ha] at HFD PC FB;have HU0:Hid (false=u0.over):=hid (by rw [hu0];rfl);have HY:=hid Y4;have HD4:=hid dis4;have HPC:=hid PC;have HFB:=hid FB;have KK:=hid (k1.trans k2);clear HST2 HX Y4 X4 dis4 PC hu0 ha hb0 hy4 FB k3 k4 HPW;go_wp2_with fail;refine HFD.out.mono ?_;rintro r w5 ⟨rfl,sx5,X5,l5⟩;clear HFD;obtain ⟨a1,a2⟩:=a;obtain ⟨ao,av,ae,as_⟩:=a1;dsimp only at X5;obtain ⟨Y5,dis5⟩:=HY.out.beside l5 (fun p hp hq=>HD4.out p hq hp);have B5:=Bl.alloc w5 (dZ ao av ae as_) 31;have k5:=Kp.alloc [] w5 (.cells (dZ ao av ae as_).toArray 31);have X6:=X5.aj k5;have Y6:=Y5.aj k5;have fx5:=X5.far (Np w5.heap.size);have fy5:=Y5.far (Np w5.heap.size);obtain ⟨w6,hw6⟩:∃ w6,w6=w5.alloc (.cells (dZ ao av ae as_).toArray 31):=⟨_,rfl⟩;obtain ⟨xa,hxa⟩:∃ xa,xa=w5.heap.size:=⟨_,rfl⟩;have HW6:=hid hw6
  have HXA:=hid hxa;rw [<-hw6,<-hxa] at B5;rw [<-hw6] at X6 Y6 k5;rw [<-hxa] at fx5 fy5;have HE:=hid (end_t HP.out X6);have EB:=end_bt HP.out.ok HFB.out.1;have EO:=zM (S:=S) (u:=a2);obtain ⟨b,hb⟩:∃ b,b=a2.end_ S:=⟨_,rfl⟩;have EE:=Io (S:=S) (u:=a2);have EU:=end_out (S:=S) (u:=a2);rw [<-hb] at HE EB EO EE EU;have HBB:=hid hb;clear hw6 hxa hb HY HD4;have H6:=hid (And.intro X6 (And.intro Y6 (And.intro dis5 (And.intro B5 (And.intro fx5 (And.intro fy5 k5))))));clear X5 Y5 X6 Y6 dis5 B5 fx5 fy5 k5 l5;go_wp2_with fail;rw [<-HW6.out,<-HXA.out];refine HE.out.mono ?_;rintro r w7 ⟨rfl,sx7,X7,l7⟩;clear HE HW6 HXA;obtain ⟨b1,b2⟩:=b;obtain ⟨bo,bv,be,bs⟩:=b1;dsimp only at X7 EB EO EE EU;obtain ⟨E1,E2,E3⟩:=EE;rw [EO] at E1;subst E1;obtain ⟨X6,Y6,dis6,B6,fx6,fy6,k6⟩:=H6.out;obtain ⟨Y7,dis7⟩:=Y6.beside l7 (fun p hp hq=>dis6 p hp hq);obtain ⟨BA7,_⟩:=l7.bl B6 fx6;have B7:=Bl.alloc w7 (dZ bo true be bs) 31;have k7:=Kp.alloc [] w7 (.cells (dZ bo true be bs).toArray 31)
  have X8:=X7.aj k7;have Y8:=Y7.aj k7;have BA8:=BA7.aj k7 (by simp);have fx7:=X7.far (Np w7.heap.size);have fy7:=Y7.far (Np w7.heap.size);obtain ⟨w8,hw8⟩:∃ w8,w8=w7.alloc (.cells (dZ bo true be bs).toArray 31):=⟨_,rfl⟩;obtain ⟨xb,hxb⟩:∃ xb,xb=w7.heap.size:=⟨_,rfl⟩;have HW8:=hid hw8;have HXB:=hid hxb;rw [<-hw8,<-hxb] at B7;rw [<-hw8] at X8 Y8 BA8;rw [<-hxb] at fx7 fy7;have HX8:=hid X8;have H8:=hid (And.intro Y8 (And.intro dis7 (And.intro BA8 (And.intro B7 (And.intro fy6 fy7)))));have HEB:=hid (And.intro EB (And.intro EO (And.intro E2 (And.intro E3 EU))));clear hw8 hxb X6 Y6 dis6 B6 fx6 fy6 k6 Y7 dis7 BA7 B7 k7 X8 Y8 BA8 fx7 fy7 H6 l7 X7 EB EO E2 E3 EU;go_wp2_with fail;rw [<-HW8.out,<-HXB.out];clear HW8 HXB;go_loopw [1,15,16,17,18,19] (fun v1 v15 v16 v17 _ _ wr=>∃ (j:Nat) (rest O:List UInt8) (sy1:Mst) (uy:Ust),j<=40/\v1=.string (ba rest)/\v15=.string (ba O)/\v16=.bool uy.over/\v17=.int .i64 j/\rest.length<=140737488355328/\Hid (Pcs S inp.length (⟨ao,av,ae,as_⟩,a2) uy O rest)/\Hid (Ed w2 wr ex mx sb dx S sx7 b2)/\Hid (Ed w2 wr ey my sb dy S sy1 uy/\(∀ p,Ed.blk ey my dy sy1 p->¬ Ed.blk ex mx dx sx7 p)/\Bl wr xa (dZ ao av ae as_)/\Bl wr xb (dZ bo true be bs)/\¬ Ed.blk ey my dy sy1 xa/\¬ Ed.blk ey my dy sy1 xb)) (fun _ _ _ i _ _ _=>41 - (intOf i).toNat)
  case atStart=>exact ⟨0,inp,[],sy,u0,by omega,rfl,rfl,(by rw [HU0.out]),rfl,HIN.out,HPC,HX8,H8⟩
  case round=>
   obtain ⟨j,rest,O,sy1,uy,hj,rfl,rfl,rfl,rfl,hrl,HPC,HX9,H9⟩:=hrel;by_cases hT:j < n/\j < 40
   case neg=>
    have hT2:¬ j < n\/(j < n/\¬ j < 40):=by omega
    clear hT;rcases hT2 with hjn | ⟨hjn,hj40⟩
    all_goals
     obtain ⟨Y9,dis9,BA9,BB9,fa9,fb9⟩:=H9.out;have hd9:uy.over=false->uy.left.length+rest.length+uy.number<=281474976710656:=fun q=>by
      have:=HPC.out.lf q;have:=HIN.out;omega
     have HFD:=hid (xJ (d:=rest) HP.out Y9 hd9);have HAT:=HPC.out.at_;have hrb:=(zJ (d:=rest) HP.out.ok HPC.out.bt hd9).2;have HOL0:(O++(uy.feed S rest).1.out).length<=200000:=by
      have e:=congrArg (fun x:Ust.Rep×Ust=>x.1.out.length) HAT;have q:=HFB.out.2;replace e:ao.length=(O++(uy.feed S rest).1.out).length:=e;omega
     obtain ⟨F,hF⟩:∃ F,F=uy.feed S rest:=⟨_,rfl⟩;rw [<-hF] at HFD HAT HOL0 hrb;obtain ⟨⟨ro,rv,re,rs⟩,u9⟩:=F;dsimp only [Ust.Rep.pre] at HFD HAT HOL0 hrb;injection HAT with q1 q2;injection q1 with q3 q4 q5 q6;have HQ:=hid (And.intro q3 (And.intro q2 HOL0));subst q2;have HDN:=hid (And.intro dis9 (And.intro BA9 (And.intro BB9 (And.intro fa9 fb9))));clear q3 q4 q5 q6 hF HOL0 Y9 dis9 BA9 BB9 fa9 fb9 H9 HPC hd9 hrb;go_wp2_with fail;refine HFD.out.mono ?_;rintro r w10 ⟨rfl,sy10,Y10,l10⟩;clear HFD;obtain ⟨dis9,BA9,BB9,fa9,fb9⟩:=HDN.out;obtain ⟨X10,dis10⟩:=HX9.out.beside l10 (fun p hp hq=>dis9 p hq hp);obtain ⟨BA10,fa10⟩:=l10.bl BA9 fa9;obtain ⟨BB10,fb10⟩:=l10.bl BB9 fb9;have B11:=Bl.alloc w10 (dZ ro rv re rs) 31;have k11:=Kp.alloc [] w10 (.cells (dZ ro rv re rs).toArray 31);have X11:=X10.aj k11;have Y11:=Y10.aj k11;have BA11:=BA10.aj k11 (by simp);have BB11:=BB10.aj k11 (by simp);have fr10:=Y10.far (Np w10.heap.size)
     obtain ⟨w11,hw11⟩:∃ w11,w11=w10.alloc (.cells (dZ ro rv re rs).toArray 31):=⟨_,rfl⟩;obtain ⟨xr,hxr⟩:∃ xr,xr=w10.heap.size:=⟨_,rfl⟩;rw [<-hw11,<-hxr] at B11;rw [<-hw11] at X11 Y11 BA11 BB11;rw [<-hxr] at fr10;have HWW:=hid (And.intro hw11 hxr);have HE:=hid (end_t HP.out Y11);rw [<-HBB.out] at HE;have H11:=hid (And.intro X11 (And.intro (fun p hp hq=>dis10 p hq hp) (And.intro BA11 (And.intro BB11 (And.intro B11 (And.intro fa10 (And.intro fb10 fr10)))))));clear X10 dis10 BA10 fa10 BB10 fb10 k11 B11 Y10 l10 dis9 BA9 BB9 fa9 fb9 X11 Y11 BA11 BB11 fr10 hw11 hxr;go_wp2_with fail;rw [<-HWW.out.1,<-HWW.out.2];refine HE.out.mono ?_;rintro r w12 ⟨rfl,sy12,Y12,l12⟩;clear HE;(try dsimp only at Y12)
     obtain ⟨X11,dis11,BA11,BB11,BR11,fa11,fb11,fr11⟩:=H11.out;obtain ⟨X12,dis12⟩:=X11.beside l12 (fun p hp hq=>dis11 p hq hp);obtain ⟨BA12,fa12⟩:=l12.bl BA11 fa11;obtain ⟨BB12,fb12⟩:=l12.bl BB11 fb11;obtain ⟨BR12,fr12⟩:=l12.bl BR11 fr11;have B13:=Bl.alloc w12 (dZ bo true be bs) 31;have k13:=Kp.alloc [] w12 (.cells (dZ bo true be bs).toArray 31);have X13:=X12.aj k13;have Y13:=Y12.aj k13;have BA13:=BA12.aj k13 (by simp);have BB13:=BB12.aj k13 (by simp);have BR13:=BR12.aj k13 (by simp);have fd12:=Y12.far (Np w12.heap.size);obtain ⟨w13,hw13⟩:∃ w13,w13=w12.alloc (.cells (dZ bo true be bs).toArray 31):=⟨_,rfl⟩;obtain ⟨xd,hxd⟩:∃ xd,xd=w12.heap.size:=⟨_,rfl⟩;rw [<-hw13,<-hxd] at B13;rw [<-hw13] at X13 Y13 BA13 BB13 BR13;rw [<-hxd] at fd12;have HWX:=hid (And.intro hw13 hxd);have HF1:=hid (Ik HP.out X13 HEB.out.1.1.fbl);have H13:=hid (And.intro Y13 (And.intro BA13 (And.intro BB13 (And.intro BR13 (And.intro B13 (And.intro fa12 (And.intro fb12 (And.intro fr12 fd12))))))))
     clear X11 dis11 BA11 BB11 BR11 fa11 fb11 fr11 X12 dis12 BA12 fa12 BB12 fb12 BR12 fr12 B13 k13 X13 Y13 BA13 BB13 BR13 fd12 hw13 hxd l12 Y12;go_wp2_with fail;rw [<-HWX.out.1,<-HWX.out.2];refine HF1.out.mono ?_;rintro r w14 ⟨nl,cl,rfl,k14,BL14,ll14,fl14,ln14⟩;clear HF1;obtain ⟨Y13,BA13,BB13,BR13,B13,fa13,fb13,fr13,fd13⟩:=H13.out;have HF2:=hid (Ik HP.out (Y13.aj k14) HEB.out.1.1.fbl);have HL14:=hid (And.intro k14 (And.intro BL14 (And.intro ll14 (And.intro fl14 ln14))));clear k14 BL14 ll14 fl14 ln14 Y13 BA13 BB13 BR13 B13 fa13 fb13 fr13 fd13;go_wp2_with fail;refine HF2.out.mono ?_;rintro r w15 ⟨nm,cm,rfl,k15,BM15,lm15,fm15,lmn15⟩;clear HF2;obtain ⟨k14,BL14,ll14,fl14,ln14⟩:=HL14.out;obtain ⟨Y13,BA13,BB13,BR13,B13,fa13,fb13,fr13,fd13⟩:=H13.out;have kk:=k14.trans k15;have Y15:=Y13.aj kk;have BA15:=BA13.aj kk (by simp);have BB15:=BB13.aj kk (by simp);have BR15:=BR13.aj kk (by simp);have BD15:=B13.aj kk (by simp)
     have BL15:=BL14.aj k15 (by simp);have ca0:=BA15.at_ 0 _ rfl;have cb0:=BB15.at_ 0 _ rfl;have cb1:=BB15.at_ 1 _ rfl;have cb2:=BB15.at_ 2 _ rfl;have cb3:=BB15.at_ 3 _ rfl;have cr0:=BR15.at_ 0 _ rfl;have cd0:=BD15.at_ 0 _ rfl;have cd1:=BD15.at_ 1 _ rfl;have cd2:=BD15.at_ 2 _ rfl;have cd3:=BD15.at_ 3 _ rfl;have HY15:=hid Y15;have HBD:=hid (And.intro BB15 (And.intro BD15 (And.intro fb13 fd13)));have HFL:=hid (And.intro BL15 (And.intro ll14 fl14));have HFM:=hid (And.intro BM15 (And.intro lm15 fm15));obtain ⟨qo,_,qol⟩:=HQ.out;have bol:=HEB.out.1.2;have hs1:¬ 9223372036854775807 < (ba O).size+(ba ro).size:=by
      rw [ax,ax];rw [Nn] at qol;omega
     have hs2:¬ 9223372036854775807 < (ba O++ba ro).size+(ba bo).size:=by
      rw [jP,ax,ax];omega
     have hs3:¬ 9223372036854775807 < (ba ao).size+(ba bo).size:=by
      rw [ax,ax,qo];omega
     have hcmp:((ba O++ba ro++ba bo).toList == (ba ao++ba bo).toList)=true:=by
      rw [jP,qo];simp
     clear k14 BL14 ll14 fl14 ln14 k15 BM15 lm15 fm15 lmn15 BL15 BA15 BB15 BR15 BD15 Y15 Y13 BA13 BB13 BR13 B13 fa13 fb13 fr13 fd13 qo qol bol kk;go_wp2_with fail;have hnl:=HP.out.ok.nl;obtain ⟨Ln,hLn⟩:∃ Ln,Ln=S.names.length:=⟨_,rfl⟩;rw [<-hLn];rw [<-hLn] at HFL HFM hnl;have HLN:=hid hLn;clear ca0 cb0 cb1 cb2 cb3 cr0 cd0 cd1 cd2 cd3 hs1 hs2 hs3 hcmp hLn;go_loopw [24] (fun v wr=>∃ j:Nat,j<=Ln/\v=.int .i64 j/\Hid (Kp [] w15 wr)) (fun v _=>3000 - (intOf v).toNat)
     case atStart=>exact ⟨0,Ns _,rfl,hid (Kp.refl _ _)⟩
     case round=>
      obtain ⟨i,hi,rfl,HKI⟩:=hrel;by_cases hiL:i < Ln
      case pos=>
       obtain ⟨BL,ll,fl⟩:=HFL.out;obtain ⟨BM,lm,fm⟩:=HFM.out;obtain ⟨nj,hnj⟩:∃ nj,S.names[i]? = some nj:=⟨_,Nk (by rw [<-HLN.out];exact hiL)⟩;obtain ⟨bj,hbj⟩:∃ bj,b2.fb[i]? = some bj:=⟨_,Nk (by rw [HEB.out.1.1.fbl,<-HLN.out];exact hiL)⟩;obtain ⟨l1,l2⟩:=fl i nj bj hiL hnj hbj;obtain ⟨m1,m2⟩:=fm i nj bj hiL hnj hbj;have ki:=HKI.out;have dl1:=(BL.aj ki (by simp)).at_ _ _ l1;have dl2:=(BL.aj ki (by simp)).at_ _ _ l2;have dm1:=(BM.aj ki (by simp)).at_ _ _ m1;have dm2:=(BM.aj ki (by simp)).at_ _ _ m2;clear BL ll fl BM lm fm hnj hbj l1 l2 m1 m2 ki;go_wp2_with fail;go_quiet (fail);have kq:=hid (HKI.out.trans (Kp.drewN [] _ nq));go_wp2_with fail;go_round
       case rel=>exact ⟨i+1,by omega,rfl,kq⟩
       case measure=>simp [intOf];omega
      case neg=>
       have hii:i=Ln:=by omega
       subst hii;have Y16:=HY15.out.aj HKI.out;have HZ:=xJ (d:=[109,111,114,101,10]) HP.out Y16 (fun q=>by rw [HEB.out.2.1] at q;cases q);obtain ⟨z1,_⟩:=oH (S:=S) (d:=[109,111,114,101,10]) HEB.out.2.1 HEB.out.2.2.2.2;rw [z1,<-HEB.out.2.2.1,<-HEB.out.2.2.2.1] at HZ;replace HZ:=hid HZ;clear Y16 z1;go_wp2_with fail;refine HZ.out.mono ?_;rintro r w16 ⟨rfl,sy16,Y16,l16⟩;clear HZ;obtain ⟨BB15,BD15,fb15,fd15⟩:=HBD.out;obtain ⟨BB16,_⟩:=l16.bl (BB15.aj HKI.out (by simp)) fb15;obtain ⟨BD16,_⟩:=l16.bl (BD15.aj HKI.out (by simp)) fd15;have k17:=Kp.alloc [] w16 (.cells (dZ [] true be bs).toArray 31);have BZ:=Bl.alloc w16 (dZ [] true be bs) 31;have BB17:=BB16.aj k17 (by simp);have BD17:=BD16.aj k17 (by simp);have HEND:=hid (KK.out.trans (Y16.m.r.kp.trans k17));have cb1:=BB17.at_ 1 _ rfl;have cd2:=BD17.at_ 2 _ rfl;have cd3:=BD17.at_ 3 _ rfl;have cz0:=BZ.at_ 0 _ rfl;have cz1:=BZ.at_ 1 _ rfl;have cz2:=BZ.at_ 2 _ rfl
       have cz3:=BZ.at_ 3 _ rfl;have hbn:(ba ([]:List UInt8)).toList=[]:=by first | rfl | decide | (unfold ByteArray.toList;rw [ByteArray.toList.loop];rfl)
       clear BB15 BD15 fb15 fd15 BB16 BD16 k17 BZ BB17 BD17 Y16 l16;go_wp2_with fail;go_ret;exact ⟨rfl,HEND.out⟩
   case pos=>
     obtain ⟨hjn,hj40⟩:=hT;obtain ⟨Y9,dis9,BA9,BB9,fa9,fb9⟩:=H9.out;obtain ⟨ad,hA,hcz⟩:=(HN.out.aj (KK.out.trans Y9.m.r.kp)).at_ j hjn;have hzb:=HN.out.bd j hjn;obtain ⟨zj,hzj⟩:∃ zj,zj=z j:=⟨_,rfl⟩;rw [<-hzj] at hcz hzb;clear hzj;subst hA;have hsz:=ax rest;obtain ⟨R,hR⟩:∃ R,R=ba rest:=⟨_,rfl⟩;rw [<-hR] at hsz ⊢;obtain ⟨L,hL⟩:∃ L,L=rest.length:=⟨_,rfl⟩;rw [<-hL] at hsz hrl;obtain ⟨L1,hL1⟩:∃ L1:Nat,(L:Int)+1=(L1:Int):=⟨L+1,by omega⟩;have wL1:=aa L1 (by omega);have HPK:=hid (fun w=>JY zj (L1:Int) hzb.1 hzb.2 (by omega) (by omega) w);obtain ⟨pq1,pq2⟩:=pk_bd zj (L1:Int) (by omega);obtain ⟨m,hm⟩:∃ m:Nat,pk zj (L1:Int)=(m:Int):=⟨(pk zj (L1:Int)).toNat,by omega⟩;rw [hm] at HPK pq2;have hmL:m<=L:=by omega
     have HEX:Hid (∀ k,k<=L->R.extract 0 k=ba (rest.take k)/\R.extract k L=ba (rest.drop k)):=hid (fun k hk=>by
      rw [hR,dM,dM,hL,Od]
      exact ⟨rfl,rfl⟩)
     have HR:=hid hR;have HLL:=hid hL;have HH9:=hid (And.intro Y9 (And.intro dis9 (And.intro BA9 (And.intro BB9 (And.intro fa9 fb9)))));obtain ⟨t9,ht9⟩:∃ t9:Nat,(m:Int).tmod 9=(t9:Int):=⟨m % 9,by rw [OM (by omega)];omega⟩;have hl9:t9<=L:=by
      have:(t9:Int)<=m:=by rw [<-ht9,OM (by omega)];omega
      omega
     have HRR:Hid (∀ k,k<=L->∃ F:Ust.Rep×Ust,F=uy.feed S (rest.take k)/\(∀ wx,Ed w2 wx ey my sb dy S sy1 uy->Calls Tryz.prog 13 #[.pointer (some ⟨ey,0,none⟩),.string (ba (rest.take k))] wx fun r w'=>r=.returned (.agg (dZ F.1.out F.1.over F.1.err F.1.status).toArray)/\∃ s',Ed w2 w' ey my sb dy S s' F.2/\Lft w2 wx ey my dy sy1 w' s') /\
       Pcs S inp.length (⟨ao,av,ae,as_⟩,a2) F.2 (O++F.1.out) (rest.drop k)/\O.length+F.1.out.length<=200000/\(uy.over=true->F.1.out=[]/\F.1.over=true)/\F.1.over=F.2.over):=hid (fun k hk=>by
      have pc:Pcs S inp.length (⟨ao,av,ae,as_⟩,a2) uy O (rest.take k++rest.drop k):=by rw [List.take_append_drop];exact HPC.out
      obtain ⟨n1,n2,n3⟩:=pc.next HP.out.ok (by have:=HIN.out;omega);refine ⟨_,rfl,fun wx Ex=>xJ HP.out Ex (fun q=>?_),n1,Nq n2 HFB.out.2,n3,rfl⟩;have:=HPC.out.lf q;have:=HIN.out;have:=List.length_take_le k rest
      omega)
     clear hm hzb hR hL Y9 dis9 BA9 BB9 fa9 fb9 pq1 pq2 H9;have HS3:¬ 9 < m\/(9 < m/\(zj.tmod 2 == 0)=false)\/(9 < m/\(zj.tmod 2 == 0)=true):=by
      by_cases h9:9 < m
      .cases (zj.tmod 2 == 0)
       .exact .inr (.inl ⟨h9,rfl⟩)
       .exact .inr (.inr ⟨h9,rfl⟩)
      .exact .inl h9
     cases hov:uy.over <;> rcases HS3 with h9 | ⟨h9,he⟩ | ⟨h9,he⟩
     all_goals
      go_wp2_with fail;refine (HPK.out _).mono ?_;rintro r w9 ⟨rfl,rfl⟩;go_wp2_with fail
      first
       | (rw [(HEX.out m hmL).1]
          have HRX:=HRR.out m hmL
          have HEY:=(HEX.out m hmL).2)
       | (rw [(HEX.out t9 hl9).1]
          have HRX:=HRR.out t9 hl9
          have HEY:=(HEX.out t9 hl9).2)
      obtain ⟨F,hF,HFD,HNX,HOL,HOV,HFO⟩:=HRX;obtain ⟨⟨ro,rv,re,rs⟩,u9⟩:=F;dsimp only at HFD HNX HOL HOV HFO
      try
       have e0:=HOV hov;obtain ⟨e1,rfl⟩:=e0;have hbn:(ba ro).toList=[]:=by rw [e1];(first | rfl | decide | (unfold ByteArray.toList;rw [ByteArray.toList.loop];rfl))
       clear e1
      clear HOV;obtain ⟨Y9,dis9,BA9,BB9,fa9,fb9⟩:=HH9.out;have HFD1:=hid (HFD _ Y9);have HNX1:=hid HNX;have HFO1:=hid HFO;have HEY1:=hid HEY;clear HFD HNX hF HFO HRR HEY Y9 dis9 BA9 BB9 fa9 fb9;refine HFD1.out.mono ?_;rintro r w10 ⟨rfl,sy10,Y10,l10⟩;obtain ⟨Y9,dis9,BA9,BB9,fa9,fb9⟩:=HH9.out;obtain ⟨X10,dis10⟩:=HX9.out.beside l10 (fun p hp hq=>dis9 p hq hp);obtain ⟨BA10,fa10⟩:=l10.bl BA9 fa9;obtain ⟨BB10,fb10⟩:=l10.bl BB9 fb9
      first
       | (have B11:=Bl.alloc w10 (dZ ro rv re rs) 31
          have k11:=Kp.alloc [] w10 (.cells (dZ ro rv re rs).toArray 31))
       | (have B11:=Bl.alloc w10 (dZ ro true re rs) 31
          have k11:=Kp.alloc [] w10 (.cells (dZ ro true re rs).toArray 31))
      have X11:=hid (X10.aj k11);have H11:=hid (And.intro (Y10.aj k11) (And.intro (fun p hp hq=>dis10 p hq hp) (And.intro (BA10.aj k11 (by simp)) (And.intro (BB10.aj k11 (by simp)) (And.intro fa10 fb10)))));have r0:=B11.at_ 0 _ rfl;have r1:=B11.at_ 1 _ rfl;have hsz2:¬ 9223372036854775807 < (ba O).size+(ba ro).size:=by
       rw [ax,ax];omega
      clear X10 dis10 BA10 fa10 BB10 fb10 k11 B11 Y10 l10 Y9 dis9 BA9 BB9 fa9 fb9 HOL HFD1;go_wp2_with fail;go_round
      case rel=>exact ⟨j+1,_,_,sy10,u9,by omega,(by rw [HEY1.out]),(by rw [jP]),(by rw [<-HFO1.out]),rfl,by rw [N7,<-HLL.out];omega,HNX1,X11,H11⟩
      case measure=>simp [intOf];omega
end
end Go.Proofs.YtiahkfoojjpaaaaGreatDoor
