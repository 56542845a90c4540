import Derived.Test.YtiahkfoojjpaaaaGreatDoorS22
import Derived.RegionDies
set_option maxRecDepth 100000
set_option maxHeartbeats 16000000
set_option linter.all false
namespace Go.Proofs.YtiahkfoojjpaaaaGreatDoor
open Go.RowKit
section
variable {w w':World}{b k:Nat}{src:ByteArray}
theorem Pz(hr:Cur w b src k)(hk:k<src.size)(h10:saw src k 10=false):Calls Tryz.prog 164 #[.pointer (some ⟨b,0,none⟩)] w fun e w'=>e=.returned (.tuple #[])/\Cur w' b src k/\Mv b w w':=by
 have he:((k:Int)==(src.size:Int))=false:=by simp;omega
 have H:=hid h10;clear h10;go_enter Tryz.func164,Tryz.ntmps164
 go_wp2_with fail;refine(du hr he).mono ?_;rintro e w1 ⟨rfl,h1,m1⟩;go_wp2_with fail;refine(dk 10 h1 H.out).mono ?_;rintro e w2 ⟨rfl,h2,m2⟩;go_wp2_with fail;go_end0;exact⟨rfl,h2,m1.trans m2⟩
theorem iO(hr:Cur w b src k)(hk:k<src.size)(h10:saw src k 10=false){v:Bool}(h:saw src k 47=v):Calls Tryz.prog 163 #[.pointer (some ⟨b,0,none⟩)] w fun e w'=>e=.returned (.bool v)/\Cur w' b src (if v then k+1 else k)/\Mv b w w':=by
 have H:=hid h;clear h;go_enter Tryz.func163,Tryz.ntmps163
 go_wp2_with fail;refine(Pz hr hk h10).mono ?_;rintro e w1 ⟨rfl,h1,m1⟩;have T:=hid (df 47 h1 H.out)
 cases v
 all_goals
  go_wp2_with fail;refine T.out.mono ?_;rintro e w2 ⟨rfl,h2,m2⟩;go_wp2_with fail;go_ret;exact⟨rfl,h2,m1.trans m2⟩
theorem part_v{x:UInt8}(esc:ByteArray)(hr:Cur w b src k)(hk:k<src.size)(hx:src[k]=x)(h:saw src k 92=false):Calls Tryz.prog 138 #[.pointer (some ⟨b,0,none⟩),.string esc] w fun e w'=>e=.returned (.int .u8 (x.toNat:Nat))/\Cur w' b src (k+1)/\Mv b w w':=by
 have H:=hid h;have hsm:=hr.small;have HX:=hid hx;clear h hx;go_enter Tryz.func138,Tryz.ntmps138
 go_wp2_with fail;refine(dk 92 hr H.out).mono ?_;rintro e w1 ⟨rfl,h1,m1⟩;have c1:=h1.c1;have f1:=h1.free 1;have s2:=h1.step hk;have m2:=m1.trans (Mv.step b w1 (.int .i64 ((k:Int)+1)));obtain⟨v1,hv1⟩:∃v1:Int,v1=(k:Int)+1:=⟨_,rfl⟩;rw[<-hv1] at s2 m2;obtain⟨w2,hw2⟩:∃w2,w2=w1.setCell ⟨b,1,none⟩ (.int .i64 v1):=⟨_,rfl⟩;rw[<-hw2] at s2 m2;have d0:=s2.c0;have d1:=s2.c1;have e1:((k+1:Nat):Int)-1=(k:Int):=by omega
 have wk:=aa k (by omega);have c5:(⟨src.data⟩:ByteArray)[k]=x:=HX.out;obtain⟨k1,hk1⟩:∃k1,k1=k+1:=⟨_,rfl⟩;rw[<-hk1] at d1 e1;clear hk1;go_upto_region 3 with fail
 rw[<-hv1,<-hw2];clear hw2 c1 f1;go_quiet (fail);go_wp2_with fail;go_ret;exact⟨rfl,s2.drewN _,m2.trans (Mv.drewN _ _ _)⟩
end
structure tU(w:World)(b:Nat)(src:ByteArray)(k:Nat):Prop where
 cur:Cur w b src k
 c2:w.cell? ⟨b,2,none⟩=some (.int .i64 4)
section
variable {w w':World}{b k k':Nat}{src:ByteArray}
theorem tU.move(h:tU w b src k)(m:Mv b w w')(hc:Cur w' b src k'):tU w' b src k':=⟨hc,(m.same 2 (by omega)).trans h.c2⟩
theorem Sr.e{w0:World}{σ:Sst}(h:Sr w0 w b src k σ):tU w b src k:=⟨h.cur,h.c.c2⟩
theorem Sr.tw{w0:World}{σ:Sst}(h:Sr w0 w b src k σ)(m:Mv b w w'):Kp [] w0 w':=
 (h.r.aj m.kp (fun x hx=>by
   simp at hx;subst hx
   exact⟨h.r.bk.lo 0 x rfl,fun i hi e=>by have:=h.r.bk.ne i 0 x e rfl;omega,fun f hf e=>(h.r.fx f hf).2.2 0 (by rw[e];rfl)⟩)).kp
theorem dF(hr:tU w b src k):Calls Tryz.prog 131 #[.pointer (some ⟨b,0,none⟩)] w fun e w'=>e=iG 4 k/\Mv b w w':=by
 have c1:=hr.cur.c1;have ce:=hr.c2;go_enter Tryz.func131,Tryz.ntmps131
 go_wp2_with fail;go_region_dies
 all_goals exact⟨rfl,rfl,Mv.drew b w⟩
theorem DZ(x:Int)(hr:tU w b src k)(h:saw src k x=false):Calls Tryz.prog 143 #[.pointer (some ⟨b,0,none⟩),.int .u8 x] w fun e w'=>e=iG 4 k/\Mv b w w':=by
 go_enter Tryz.func143,Tryz.ntmps143
 go_wp2_with fail;refine(df x hr.cur h).mono ?_;rintro e w1 ⟨rfl,r1,m1⟩;go_wp2_with fail;refine(dF (hr.move m1 r1)).mono ?_;rintro e w2 ⟨rfl,m2⟩;go_wp2_with fail;exact⟨rfl,rfl,m1.trans m2⟩
def wdF(s:ByteArray)(f:Nat):Nat->Nat->Option Nat
 | 0,_=>none
 | n+1,k=>if isW s k then (if k-f=8 then some k else wdF s f n (k+1)) else if k=f then some k else none
theorem Hj{n pl:Nat}(hr:tU w b src k)(h:wdF src (blk src k) n (blk src k)=some pl):Calls Tryz.prog 134 #[.pointer (some ⟨b,0,none⟩)] w fun r w'=>r=iG 4 pl/\Mv b w w':=by
 have hsm:=hr.cur.small;obtain⟨f,hf⟩:∃f,f=blk src k:=⟨_,rfl⟩;rw[<-hf] at h;have H:=hid h;have HF:=hid hf;have HC2:=hid hr.c2;clear h hf;go_enter Tryz.func134,Tryz.ntmps134
 go_wp2_with fail;refine(dS hr.cur).mono ?_;rintro r w1 ⟨rfl,h1,m1⟩;rw[<-HF.out] at h1;have c1:=h1.c1;go_wp2_with fail;clear c1;go_loopw [11] (fun _ wr=>∃a m:Nat,f<=a/\Cur wr b src a/\Mv b w wr/\Hid (wdF src f m a=some pl)) (fun _ wr=>3000-jc wr b)
 case atStart=>exact⟨f,n,QD _,h1,m1,H⟩
 case round=>
  obtain⟨a,m,hfa,hrr,hmv,HB⟩:=hrel;have HAT:=hid (aE hrr)
  match m,HB with
  | 0,HB=>cases HB.out
  | m+1,HB=>
  have hB:=HB.out;unfold wdF at hB;have hle:=hrr.le;clear HB
  cases hw:isW src a
  .rw[hw,Qw (by simp)] at hB;by_cases hx:a=f
   .rw[QB hx] at hB;injection hB with hB;subst hB;have hne:((a:Int)==(f:Int))=true:=by rw[hx];simp
    go_wp2_with fail;refine(eO hrr hw).mono ?_;rintro r w2 ⟨rfl,h2,m2⟩;have c1:=h2.c1;go_wp2_with fail;clear c1;refine(dF ⟨h2,((hmv.trans m2).same 2 (by omega)).trans HC2.out⟩).mono ?_;rintro e w3 ⟨rfl,m3⟩;go_wp2_with fail;exact⟨rfl,by rw[hx],hmv.trans (m2.trans m3)⟩
   .rw[Qw hx] at hB;cases hB
  .rw[hw,QB rfl] at hB;have hlt:=qq hw;obtain⟨d,hd⟩:∃d:Nat,(a:Int)-(f:Int)=(d:Int):=⟨a-f,by omega⟩;have wd:=aa d (by omega);by_cases hx:a-f=8
   .rw[QB hx] at hB;injection hB with hB;subst hB;have hne:((d:Int)==8)=true:=by rw[beq_iff_eq];omega
    go_wp2_with fail;refine(eO hrr hw).mono ?_;rintro r w2 ⟨rfl,h2,m2⟩;have c1:=h2.c1;go_wp2_with fail;clear c1;refine(dF ⟨h2,((hmv.trans m2).same 2 (by omega)).trans HC2.out⟩).mono ?_;rintro e w3 ⟨rfl,m3⟩;go_wp2_with fail;exact⟨rfl,rfl,hmv.trans (m2.trans m3)⟩
   .rw[Qw hx] at hB;have hne:((d:Int)==8)=false:=by rw[Qz];omega
    have HB:=hid hB;clear hB;go_wp2_with fail;refine(eO hrr hw).mono ?_;rintro r w2 ⟨rfl,h2,m2⟩;have c1:=h2.c1;have f1:=h2.free 1;go_wp2_with fail;go_round
    case rel=>exact⟨a+1,m,by omega,h2.step hlt,hmv.trans (m2.trans (Mv.step _ _ _)),HB⟩
    case measure=>rw[aE (h2.step hlt),HAT.out];omega
def numF(s:ByteArray)(lo hi f:Nat):Nat->Nat->Nat->Option Nat
 | 0,_,_=>none
 | n+1,v,k=>if isD s k then (if (v=0/\f<k)\/10*v+dgt s k<lo\/hi<10*v+dgt s k then some k else numF s lo hi f n (10*v+dgt s k) (k+1)) else none
theorem Dw{n lo hi pl:Nat}(hr:tU w b src k)(hhi:hi<=1000000)(h:numF src lo hi k n 0 k=some pl):Calls Tryz.prog 146 #[.pointer (some ⟨b,0,none⟩),.int .i64 lo,.int .i64 hi] w fun r w'=>r=iG 4 pl/\Mv b w w':=by
 have hsm:=hr.cur.small;have c1:=hr.cur.c1;have HR:=hid hr;have H:=hid h;clear h hr;go_enter Tryz.func146,Tryz.ntmps146
 go_wp2_with fail;clear c1;go_loopw [7] (fun y wr=>∃v a m:Nat,y=.int .i64 v/\v<=1000000/\k<=a/\Cur wr b src a/\Mv b w wr/\Hid (numF src lo hi k m v a=some pl)) (fun _ wr=>3000-jc wr b)
 case atStart=>exact⟨0,k,n,rfl,by omega,QD _,HR.out.cur,Mv.refl _ _,H⟩
 case round=>
  obtain⟨v,a,m,rfl,hv,hka,hrr,hmv,HB⟩:=hrel;have HAT:=hid (aE hrr)
  match m,HB with
  | 0,HB=>cases HB.out
  | m+1,HB=>
  have hB:=HB.out;unfold numF at hB;clear HB
  cases hd:isD src a
  .rw[hd,Qw (by simp)] at hB
   cases hB
  .rw[hd,QB rfl] at hB;obtain⟨hlt,hd1,hd2⟩:=tn hd;have hdg:dgt src a=(src[a]).toNat-48:=by unfold dgt;rw[dif_pos hlt]
   obtain⟨y,hy⟩:∃y:Nat,y=(src[a]).toNat:=⟨_,rfl⟩;have c5:(⟨src.data⟩:ByteArray)[a].toNat=y:=hy.symm;rw[<-hy] at hdg hd1 hd2;obtain⟨d,hde⟩:∃d:Nat,d=dgt src a:=⟨_,rfl⟩;rw[<-hde] at hB hdg;obtain⟨t,ht⟩:∃t:Nat,t=10*v:=⟨_,rfl⟩;obtain⟨u,hu⟩:∃u:Nat,u=10*v+d:=⟨_,rfl⟩;have e1:(10:Int)*(v:Int)=(t:Int):=by omega
   have e2:(y:Int)-48=(d:Int):=by omega
   have e3:(t:Int)+(d:Int)=(u:Int):=by omega
   have q1:=aa t (by omega);have q2:IntKind.u8.wrap (d:Int)=(d:Int):=by rw[IntKind.wrap_u8];omega
   have q4:=aa d (by omega);have q3:=aa u (by omega);rw[<-hu] at hB;have HD:Hid _:=hd;have HH:Hid ((t=10*v)/\u=10*v+d):=hid ⟨ht,hu⟩;split at hB
   .rename_i hno;injection hB with hB;have HPL:Hid (a=pl):=hid hB;clear hB hde hdg ht hu hy;have HG:∀{w2:World},Cur w2 b src a->Mv b wr w2->Calls Tryz.prog 131 #[.pointer (some ⟨b,0,none⟩)] w2 fun e w'=>e=iG 4 a/\Mv b w2 w':=fun h2 m2=>dF ⟨h2,((hmv.trans m2).same 2 (by omega)).trans HR.out.c2⟩;by_cases hc:v=0/\k<a
    .obtain⟨hv0,hka2⟩:=hc;clear hno;subst hv0;obtain⟨j,hj⟩:∃j:Int,j=(k:Int):=⟨_,rfl⟩;have g0:decide ((k:Int)<(a:Int))=true:=by simp;omega
     go_wp2_with fail;refine(dG hrr HD.out).mono ?_;rintro r w2 ⟨rfl,h2,m2⟩;have c0:=h2.c0;have c1:=h2.c1;go_wp2_with fail;go_quiet (fail);go_wp2_with fail;refine(HG (h2.drewN _) (m2.trans (Mv.drewN _ _ _))).mono ?_;rintro r w3 ⟨rfl,m3⟩;go_wp2_with fail;exact⟨rfl,by rw[HPL.out],hmv.trans (m2.trans ((Mv.drewN _ _ _).trans m3))⟩
    .have hno2:u<lo\/hi<u:=by
      rcases hno with q|q
      .exact absurd q hc
      .exact q
     clear hno;have hno3:u<lo\/(¬u<lo/\hi<u):=by omega
     clear hno2;rcases hno3 with hl|⟨hl,hl2⟩
     .by_cases hv0:v=0
      .have hka2:a=k:=by omega
       clear hc;subst hka2;subst hv0;have ht0:t=0:=HH.out.1;have hud:u=d:=by have:=HH.out.2;omega
       clear e3 e1 q1 ht0;subst hud;go_wp2_with fail;refine(dG hrr HD.out).mono ?_;rintro r w2 ⟨rfl,h2,m2⟩;have c0:=h2.c0;have c1:=h2.c1;go_wp2_with fail;go_quiet (fail);go_wp2_with fail;refine(HG (h2.drewN _) (m2.trans (Mv.drewN _ _ _))).mono ?_;rintro r w3 ⟨rfl,m3⟩;go_wp2_with fail;exact⟨rfl,by rw[HPL.out],hmv.trans (m2.trans ((Mv.drewN _ _ _).trans m3))⟩
      .have g0:((v:Int)==0)=false:=by rw[Qz];omega
       clear hc;go_wp2_with fail;refine(dG hrr HD.out).mono ?_;rintro r w2 ⟨rfl,h2,m2⟩;have c0:=h2.c0;have c1:=h2.c1;go_wp2_with fail;go_quiet (fail);go_wp2_with fail;refine(HG (h2.drewN _) (m2.trans (Mv.drewN _ _ _))).mono ?_;rintro r w3 ⟨rfl,m3⟩;go_wp2_with fail;exact⟨rfl,by rw[HPL.out],hmv.trans (m2.trans ((Mv.drewN _ _ _).trans m3))⟩
     .by_cases hv0:v=0
      .have hka2:a=k:=by omega
       clear hc;subst hka2;subst hv0;have ht0:t=0:=HH.out.1;have hud:u=d:=by have:=HH.out.2;omega
       clear e3 e1 q1 ht0;subst hud;go_wp2_with fail;refine(dG hrr HD.out).mono ?_;rintro r w2 ⟨rfl,h2,m2⟩;have c0:=h2.c0;have c1:=h2.c1;go_wp2_with fail;go_quiet (fail);go_wp2_with fail;refine(HG (h2.drewN _) (m2.trans (Mv.drewN _ _ _))).mono ?_;rintro r w3 ⟨rfl,m3⟩;go_wp2_with fail;exact⟨rfl,by rw[HPL.out],hmv.trans (m2.trans ((Mv.drewN _ _ _).trans m3))⟩
      .have g0:((v:Int)==0)=false:=by rw[Qz];omega
       clear hc;go_wp2_with fail;refine(dG hrr HD.out).mono ?_;rintro r w2 ⟨rfl,h2,m2⟩;have c0:=h2.c0;have c1:=h2.c1;go_wp2_with fail;go_quiet (fail);go_wp2_with fail;refine(HG (h2.drewN _) (m2.trans (Mv.drewN _ _ _))).mono ?_;rintro r w3 ⟨rfl,m3⟩;go_wp2_with fail;exact⟨rfl,by rw[HPL.out],hmv.trans (m2.trans ((Mv.drewN _ _ _).trans m3))⟩
   .rename_i hno;have hn1:¬(v=0/\k<a):=fun q=>hno (.inl q);have g2:¬u<lo:=fun q=>hno (.inr (.inl q));have g3:¬hi<u:=fun q=>hno (.inr (.inr q));have HB2:=hid hB;have HU:Hid (u<=1000000):=hid (by omega);by_cases hv0:v=0
    .have hka2:a=k:=by omega
     have hud:u=d:=by omega
     clear hB hno hde hdg ht hu hy HH;subst hka2;subst hv0;subst hud;go_wp2_with fail;refine(dG hrr HD.out).mono ?_;rintro r w2 ⟨rfl,h2,m2⟩;have c0:=h2.c0;have c1:=h2.c1;have f1:=h2.free 1;go_wp2_with fail;go_quiet (fail);go_wp2_with fail;go_round
     case rel=>exact⟨u,a+1,m,rfl,HU.out,by omega,(h2.drewN _).step hlt,hmv.trans (m2.trans ((Mv.drewN _ _ _).trans (Mv.step _ _ _))),HB2⟩
     case measure=>rw[aE ((h2.drewN _).step hlt),HAT.out];omega
    .have g0:((v:Int)==0)=false:=by rw[Qz];omega
     clear hB hno hde hdg ht hu hy HH;go_wp2_with fail;refine(dG hrr HD.out).mono ?_;rintro r w2 ⟨rfl,h2,m2⟩;have c0:=h2.c0;have c1:=h2.c1;have f1:=h2.free 1;go_wp2_with fail;go_quiet (fail);go_wp2_with fail;go_round
     case rel=>exact⟨u,a+1,m,rfl,HU.out,by omega,(h2.drewN _).step hlt,hmv.trans (m2.trans ((Mv.drewN _ _ _).trans (Mv.step _ _ _))),HB2⟩
     case measure=>rw[aE ((h2.drewN _).step hlt),HAT.out];omega
theorem end_f(hr:tU w b src k)(h:iD src (blk src k)=false):Calls Tryz.prog 153 #[.pointer (some ⟨b,0,none⟩)] w fun r w'=>r=iG 4 (blk src k)/\Mv b w w':=by
 obtain⟨f,hf⟩:∃f,f=blk src k:=⟨_,rfl⟩;rw[<-hf] at h ⊢;have HF:=hid hf;clear hf;go_enter Tryz.func153,Tryz.ntmps153
 go_wp2_with fail;refine(dS hr.cur).mono ?_;rintro r w1 ⟨rfl,h1,m1⟩;rw[<-HF.out] at h1;have hle:=h1.le;simp only[iD,Ru,decide_eq_false_iff_not] at h;obtain⟨⟨⟨⟨hx,h10⟩,h59⟩,h35⟩,h125⟩:=h;have he:((f:Int)==(src.size:Int))=false:=by simp;omega
 clear hx;go_wp2_with fail;refine(du h1 he).mono ?_;rintro r w2 ⟨rfl,h2,m2⟩;go_wp2_with fail;refine(dk 10 h2 h10).mono ?_;rintro r w3 ⟨rfl,h3,m3⟩;go_wp2_with fail;refine(dk 59 h3 h59).mono ?_;rintro r w4 ⟨rfl,h4,m4⟩;go_wp2_with fail;refine(dk 35 h4 h35).mono ?_;rintro r w5 ⟨rfl,h5,m5⟩;go_wp2_with fail;refine(dk 125 h5 h125).mono ?_;rintro r w6 ⟨rfl,h6,m6⟩;have m16:=m1.trans (m2.trans (m3.trans (m4.trans (m5.trans m6))));go_wp2_with fail;refine(dF (hr.move m16 h6)).mono ?_;rintro r w7 ⟨rfl,m7⟩;go_wp2_with fail;exact⟨rfl,rfl,m16.trans m7⟩
def leaves(s:ByteArray)(k:Nat):Bool:=decide (k=s.size)||saw s k 10
theorem PA(hr:tU w b src k)(h:leaves src k=true):Calls Tryz.prog 164 #[.pointer (some ⟨b,0,none⟩)] w fun e w'=>e=iG 4 k/\Mv b w w':=by
 have H:=hid h;clear h;by_cases hx:k=src.size
 .have he:((k:Int)==(src.size:Int))=true:=by simp;omega
  clear hx;go_enter Tryz.func164,Tryz.ntmps164
  go_wp2_with fail;refine(du hr.cur he).mono ?_;rintro e w1 ⟨rfl,h1,m1⟩;go_wp2_with fail;refine(dF (hr.move m1 h1)).mono ?_;rintro r w7 ⟨rfl,m7⟩;go_wp2_with fail;exact⟨rfl,rfl,m1.trans m7⟩
 .have he:((k:Int)==(src.size:Int))=false:=by simp;omega
  have h10:saw src k 10=true:=by have:=H.out;simpa[leaves,hx] using this
  clear hx;go_enter Tryz.func164,Tryz.ntmps164
  go_wp2_with fail;refine(du hr.cur he).mono ?_;rintro e w1 ⟨rfl,h1,m1⟩;go_wp2_with fail;refine(dk 10 h1 h10).mono ?_;rintro e w2 ⟨rfl,h2,m2⟩;go_wp2_with fail;refine(dF (hr.move (m1.trans m2) h2)).mono ?_;rintro r w7 ⟨rfl,m7⟩;go_wp2_with fail;exact⟨rfl,rfl,m1.trans (m2.trans m7)⟩
theorem CP(hr:tU w b src k)(h:leaves src k=true):Calls Tryz.prog 163 #[.pointer (some ⟨b,0,none⟩)] w fun e w'=>e=iG 4 k/\Mv b w w':=by
 have H:=hid h;clear h;go_enter Tryz.func163,Tryz.ntmps163
 go_wp2_with fail;refine(PA hr H.out).mono ?_;rintro e w1 ⟨rfl,m1⟩;go_wp2_with fail;exact⟨rfl,rfl,m1⟩
def uG(s:ByteArray)(esc:ByteArray)(k:Nat):Bool:=saw s k 92&&(if h:k+1<s.size then decide (Lib.indexByte esc.data.toList s[k+1] = -1) else true)
theorem PK(esc:ByteArray)(hr:tU w b src k)(h:uG src esc k=true):Calls Tryz.prog 138 #[.pointer (some ⟨b,0,none⟩),.string esc] w fun e w'=>e=iG 4 k/\Mv b w w':=by
 have hsm:=hr.cur.small;simp only[uG,RO] at h;obtain⟨h92,h⟩:=h;have hk:=aC h92;have H:=hid h92;clear h92;by_cases hk1:k+1<src.size
 .simp only[hk1,dif_pos,decide_eq_true_eq] at h;have hix:Lib.indexByte esc.data.toList ((src[k+1].toNat:Int)).toNat.toUInt8 = -1:=by simpa using h
  have HIX:=hid hix;clear h hix;obtain⟨k1,hkk⟩:∃k1,k1=k+1:=⟨_,rfl⟩;have e1:(k:Int)+1=(k1:Int):=by omega
  have wk:=aa k1 (by omega);have he:((k1:Int)==(src.size:Int))=false:=by rw[Qz];omega
  have hk2:k1<src.size:=by omega
  obtain⟨y,hy⟩:∃y:Nat,y=(src[k+1]).toNat:=⟨_,rfl⟩;have c5:(⟨src.data⟩:ByteArray)[k1].toNat=y:=by simp only[hkk];exact hy.symm
  have HI2:Hid (Lib.indexByte esc.data.toList ((y:Int)).toNat.toUInt8 = -1):=hid (by rw[hy];exact HIX.out);clear HIX hy hkk hk1;go_enter Tryz.func138,Tryz.ntmps138
  go_wp2_with fail;refine(dk 92 hr.cur H.out).mono ?_;rintro e w1 ⟨rfl,h1,m1⟩;have c0:=h1.c0;have c1:=h1.c1;go_wp2_with fail;go_quiet ((go_at_call 162;exact nH _ _ HI2.out _ _));go_wp2_with fail;refine(dF (hr.move (m1.trans (Mv.drewN _ _ _)) (h1.drewN _))).mono ?_;rintro r w7 ⟨rfl,m7⟩;go_wp2_with fail;exact⟨rfl,rfl,m1.trans ((Mv.drewN _ _ _).trans m7)⟩
 .have he:((k:Int)+1==(src.size:Int))=true:=by rw[beq_iff_eq];omega
  have wk:=aa (k+1) (by omega);clear h;go_enter Tryz.func138,Tryz.ntmps138
  go_wp2_with fail;refine(dk 92 hr.cur H.out).mono ?_;rintro e w1 ⟨rfl,h1,m1⟩;have c0:=h1.c0;have c1:=h1.c1;go_wp2_with fail;go_quiet (fail);go_wp2_with fail;refine(dF (hr.move (m1.trans (Mv.drewN _ _ _)) (h1.drewN _))).mono ?_;rintro r w7 ⟨rfl,m7⟩;go_wp2_with fail;exact⟨rfl,rfl,m1.trans ((Mv.drewN _ _ _).trans m7)⟩
end
end Go.Proofs.YtiahkfoojjpaaaaGreatDoor
namespace Go.Proofs.YtiahkfoojjpaaaaGreatDoor
open Go.RowKit Go.MapKept
section
variable {w0 w:World}{b k:Nat}{src:ByteArray}{σ:Sst}
theorem qy{n:Nat}:∀(cs:List (List Value)) (i j:Nat) (c:List Value),(∀c∈cs,c.length=n)->cs[i]? = some c->j<n->cs.flatten[i*n+j]? = c[j]?
 | [],i,_,_,_,h,_=>by simp at h
 | d::cs,0,j,c,hl,h,hj=>by
  injection h with h;subst h;have:=hl d (by simp);rw[Rf,Sb,QH,Q5 (by omega)]
 | d::cs,i+1,j,c,hl,h,hj=>by
  have:=hl d (by simp);rw[Rf,QU (by rw[this,QY];omega),this,show(i+1)*n+j-n=i*n+j by rw[QY];omega];exact qy cs i j c (fun c hc=>hl c (by simp[hc])) h hj
theorem Sr.qH{i j g cap:Nat}{c:List Value}(h:Sr w0 w b src k σ)(hv:σ.vc=.slice (some ⟨g,0,none⟩) σ.cs.length cap)(hi:σ.cs[i]? = some c)(hj:j<23):w.cell? ⟨g,i*23+j,none⟩=c[j]?:=by
 have hlt:i<σ.cs.length:=(List.getElem?_eq_some_iff.1 hi).1;have o4:=h.r.o4;rw[hv] at o4;rw[o4.cellAt (i*23+j) (by omega)];exact qy σ.cs i j c (fun c hc=>(h.r.len c hc).1) hi hj
theorem II{ci pl n j:Nat}{c:List Value}{x:ByteArray}(hs:Sr w0 w b src k σ)(hc:σ.cs[ci]? = some c)(hx:c[4]? = some (.string x))(hne:(x.toList==[])=false)(hf:Instr.findNow .string (.string x) (lY 0 σ.ls) 0=some (some (j,.int .i64 (n:Int)))):Calls Tryz.prog 106 #[.pointer (some ⟨b,0,none⟩),.agg #[.int .i64 (ci:Int),.int .i64 (pl:Int)]] w fun r w'=>r=.returned (.tuple #[])/\Sr w0 w' b src k { σ with cs:=σ.cs.set ci (c.set 5 (.int .i64 (n:Int)))}:=by
 have hilt:ci<σ.cs.length:=(List.getElem?_eq_some_iff.1 hc).1;obtain⟨g,cap,ev⟩:=fY hs.r.o4 (by omega);have ka:=Kp.alloc [] w (.cells #[.int .i64 (ci:Int),.int .i64 (pl:Int)] 164);have BG:=Bl.alloc w [.int .i64 (ci:Int),.int .i64 (pl:Int)] 164;have s1:=hs.aj ka;have HF:=hid hf;have HEV:=hid ev;clear hf hs;go_enter Tryz.func106,Tryz.ntmps106
 go_upto_region 1 with fail
 obtain⟨gb,hgb⟩:∃gb,gb=w.heap.size:=⟨_,rfl⟩;obtain⟨w1,hw1⟩:∃w1,w1=w.alloc (.cells #[.int .i64 (ci:Int),.int .i64 (pl:Int)] 164):=⟨_,rfl⟩;rw[<-hgb,<-hw1] at BG;rw[<-hw1] at s1;rw[<-hgb,<-hw1];clear hgb hw1 ka;have c4:=s1.c.c4;rw[ev] at c4;have d0:=BG.at_ 0 _ rfl;clear ev;go_quiet (fail);have s2:=s1.aj (Kp.drewN [] w1 nq);obtain⟨w2,hw2⟩:∃w2,w2=w1.drewN nq:=⟨_,rfl⟩;rw[<-hw2] at s2 ⊢;clear hw2 s1 BG c4 d0;have d4:=(s2.qH HEV.out hc (j:=4) (by omega)).trans hx;go_upto_region 4 with fail
 have c9:=s2.c.c9;have hlk:∀m',(Instr.lookup 124 (.map (some σ.lb)) (.string x) true).run Tryz.prog (w2.drewN m')=.ok (.tuple #[.int .i64 (n:Int),.bool true]) (w2.drewN m'):=fun m'=>
  nc Tryz.underlying124 Tryz.underlying9 (((Kp.drewN [] w2 m').block _ (s2.r.bk.hi 2 _ rfl) (by simp)).trans s2.r.m9) HF.out
 go_quiet (fail);have s3:=s2.aj (Kp.drewN [] w2 nq);obtain⟨w3,hw3⟩:∃w3,w3=w2.drewN nq:=⟨_,rfl⟩;rw[<-hw3] at s3 ⊢;clear hw3 hlk c9 d4 s2;obtain⟨u5,d5⟩:∃u,w3.cell? ⟨g,ci*23+5,none⟩=some u:=by
  have hl5:5<c.length:=by rw[(s3.r.len c (QM hc)).1];omega
  exact⟨_,(s3.qH HEV.out hc (j:=5) (by omega)).trans (QA hl5)⟩
 have f5:w3.frozen? ⟨g,ci*23+5,none⟩=false:=by
  have o4:=s3.r.o4;rw[HEV.out] at o4;exact o4.frozenAt _
 have S4:=hid (s3.Ip (i:=ci) (j:=5) (v:=.int .i64 (n:Int)) HEV.out hc (by omega) rfl);go_wp2_with fail;go_end0;exact⟨rfl,S4.out⟩
end
