import Derived.Test.YtiahkfoojjpaaaaGreatDoorU26
import Derived.RegionDies
set_option maxRecDepth 100000
set_option maxHeartbeats 16000000
set_option linter.all false
namespace Go.Proofs.YtiahkfoojjpaaaaGreatDoor
open Go.RowKit
structure qY (w:World) (b:Nat) (src:ByteArray) (k:Nat):Prop where
 cur:Cur w b src k
 c2:w.cell? ⟨b,2,none⟩=some (.int .i64 4)
section
variable {w w':World} {b k k':Nat} {src:ByteArray}
theorem qY.move (h:qY w b src k) (m:Mv b w w') (hc:Cur w' b src k'):qY w' b src k':=⟨hc,(m.same 2 (by omega)).trans h.c2⟩
theorem Sr.e {w0:World} {σ:Sst} (h:Sr w0 w b src k σ):qY w b src k:=⟨h.cur,h.c.c2⟩
theorem Sr.qz {w0:World} {σ:Sst} (h:Sr w0 w b src k σ) (m:Mv b w w'):Kp [] w0 w':=
 (h.r.aj m.kp (fun x hx=>by
   simp at hx;subst hx
   exact ⟨h.r.bk.lo 0 x rfl,fun i hi e=>by have:=h.r.bk.ne i 0 x e rfl;omega,fun f hf e=>(h.r.fx f hf).2.2 0 (by rw [e];rfl)⟩)).kp
theorem dw (hr:qY w b src k):Calls Tryz.prog 131 #[.pointer (some ⟨b,0,none⟩)] w fun e w'=>e=gE 4 k/\Mv b w w':=by
 have c1:=hr.cur.c1;have ce:=hr.c2;go_enter Tryz.func131,Tryz.ntmps131
 go_wp2_with fail;go_region_dies
 all_goals exact ⟨rfl,rfl,Mv.drew b w⟩
theorem Ca (x:Int) (hr:qY w b src k) (h:saw src k x=false):Calls Tryz.prog 143 #[.pointer (some ⟨b,0,none⟩),.int .u8 x] w fun e w'=>e=gE 4 k/\Mv b w w':=by
 go_enter Tryz.func143,Tryz.ntmps143
 go_wp2_with fail;refine (aY x hr.cur h).mono ?_;rintro e w1 ⟨rfl,r1,m1⟩;go_wp2_with fail;refine (dw (hr.move m1 r1)).mono ?_;rintro e w2 ⟨rfl,m2⟩;go_wp2_with fail;exact ⟨rfl,rfl,m1.trans m2⟩
def wdF (s:ByteArray) (f:Nat):Nat->Nat->Option Nat
 | 0,_=>none
 | n+1,k=>if isW s k then (if k - f=8 then some k else wdF s f n (k+1)) else if k=f then some k else none
theorem Ei {n pl:Nat} (hr:qY w b src k) (h:wdF src (blk src k) n (blk src k)=some pl) :
  Calls Tryz.prog 134 #[.pointer (some ⟨b,0,none⟩)] w fun r w'=>r=gE 4 pl/\Mv b w w':=by
 have hsm:=hr.cur.small;obtain ⟨f,hf⟩:∃ f,f=blk src k:=⟨_,rfl⟩;rw [<-hf] at h;have H:=hid h;have HF:=hid hf;have HC2:=hid hr.c2;clear h hf;go_enter Tryz.func134,Tryz.ntmps134
 go_wp2_with fail;refine (dH hr.cur).mono ?_;rintro r w1 ⟨rfl,h1,m1⟩;rw [<-HF.out] at h1;have c1:=h1.c1;go_wp2_with fail;clear c1;go_loopw [11] (fun _ wr=>∃ a m:Nat,f<=a/\Cur wr b src a/\Mv b w wr/\Hid (wdF src f m a=some pl)) (fun _ wr=>3000 - ia wr b)
 case atStart=>exact ⟨f,n,Nw _,h1,m1,H⟩
 case round=>
  obtain ⟨a,m,hfa,hrr,hmv,HB⟩:=hrel;have HAT:=hid (aC hrr)
  match m,HB with
  | 0,HB=>cases HB.out
  | m+1,HB=>
  have hB:=HB.out;unfold wdF at hB;have hle:=hrr.le;clear HB
  cases hw:isW src a
  .rw [hw,Nr (by simp)] at hB;by_cases hx:a=f
   .rw [Ny hx] at hB;injection hB with hB;subst hB;have hne:((a:Int) == (f:Int))=true:=by rw [hx];simp
    go_wp2_with fail;refine (dY hrr hw).mono ?_;rintro r w2 ⟨rfl,h2,m2⟩;have c1:=h2.c1;go_wp2_with fail;clear c1;refine (dw ⟨h2,((hmv.trans m2).same 2 (by omega)).trans HC2.out⟩).mono ?_;rintro e w3 ⟨rfl,m3⟩;go_wp2_with fail;exact ⟨rfl,by rw [hx],hmv.trans (m2.trans m3)⟩
   .rw [Nr hx] at hB;cases hB
  .rw [hw,Ny rfl] at hB;have hlt:=BI hw;obtain ⟨d,hd⟩:∃ d:Nat,(a:Int) - (f:Int)=(d:Int):=⟨a - f,by omega⟩;have wd:=aa d (by omega);by_cases hx:a - f=8
   .rw [Ny hx] at hB;injection hB with hB;subst hB;have hne:((d:Int) == 8)=true:=by rw [beq_iff_eq];omega
    go_wp2_with fail;refine (dY hrr hw).mono ?_;rintro r w2 ⟨rfl,h2,m2⟩;have c1:=h2.c1;go_wp2_with fail;clear c1;refine (dw ⟨h2,((hmv.trans m2).same 2 (by omega)).trans HC2.out⟩).mono ?_;rintro e w3 ⟨rfl,m3⟩;go_wp2_with fail;exact ⟨rfl,rfl,hmv.trans (m2.trans m3)⟩
   .rw [Nr hx] at hB;have hne:((d:Int) == 8)=false:=by rw [Nz];omega
    have HB:=hid hB;clear hB;go_wp2_with fail;refine (dY hrr hw).mono ?_;rintro r w2 ⟨rfl,h2,m2⟩;have c1:=h2.c1;have f1:=h2.free 1;go_wp2_with fail;go_round
    case rel=>exact ⟨a+1,m,by omega,h2.step hlt,hmv.trans (m2.trans (Mv.step _ _ _)),HB⟩
    case measure=>rw [aC (h2.step hlt),HAT.out];omega
def numF (s:ByteArray) (lo hi f:Nat):Nat->Nat->Nat->Option Nat
 | 0,_,_=>none
 | n+1,v,k=>if isD s k then (if (v=0/\f < k)\/10 * v+dgt s k < lo\/hi < 10 * v+dgt s k then some k else numF s lo hi f n (10 * v+dgt s k) (k+1)) else none
theorem Bq {n lo hi pl:Nat} (hr:qY w b src k) (hhi:hi<=1000000) (h:numF src lo hi k n 0 k=some pl) :
  Calls Tryz.prog 146 #[.pointer (some ⟨b,0,none⟩),.int .i64 lo,.int .i64 hi] w fun r w'=>r=gE 4 pl/\Mv b w w':=by
 have hsm:=hr.cur.small;have c1:=hr.cur.c1;have HR:=hid hr;have H:=hid h;clear h hr;go_enter Tryz.func146,Tryz.ntmps146
 go_wp2_with fail;clear c1;go_loopw [7] (fun y wr=>∃ v a m:Nat,y=.int .i64 v/\v<=1000000/\k<=a/\Cur wr b src a/\Mv b w wr/\Hid (numF src lo hi k m v a=some pl)) (fun _ wr=>3000 - ia wr b)
 case atStart=>exact ⟨0,k,n,rfl,by omega,Nw _,HR.out.cur,Mv.refl _ _,H⟩
 case round=>
  obtain ⟨v,a,m,rfl,hv,hka,hrr,hmv,HB⟩:=hrel;have HAT:=hid (aC hrr)
  match m,HB with
  | 0,HB=>cases HB.out
  | m+1,HB=>
  have hB:=HB.out;unfold numF at hB;clear HB
  cases hd:isD src a
  .rw [hd,Nr (by simp)] at hB
   cases hB
  .rw [hd,Ny rfl] at hB;obtain ⟨hlt,hd1,hd2⟩:=BJ hd;have hdg:dgt src a=(src[a]).toNat - 48:=by unfold dgt;rw [dif_pos hlt]
   obtain ⟨y,hy⟩:∃ y:Nat,y=(src[a]).toNat:=⟨_,rfl⟩;have c5:(⟨src.data⟩:ByteArray)[a].toNat=y:=hy.symm;rw [<-hy] at hdg hd1 hd2;obtain ⟨d,hde⟩:∃ d:Nat,d=dgt src a:=⟨_,rfl⟩;rw [<-hde] at hB hdg;obtain ⟨t,ht⟩:∃ t:Nat,t=10 * v:=⟨_,rfl⟩;obtain ⟨u,hu⟩:∃ u:Nat,u=10 * v+d:=⟨_,rfl⟩;have e1:(10:Int) * (v:Int)=(t:Int):=by omega
   have e2:(y:Int) - 48=(d:Int):=by omega
   have e3:(t:Int)+(d:Int)=(u:Int):=by omega
   have q1:=aa t (by omega);have q2:IntKind.u8.wrap (d:Int)=(d:Int):=by rw [IntKind.wrap_u8];omega
   have q4:=aa d (by omega);have q3:=aa u (by omega);rw [<-hu] at hB;have HD:Hid _:=hd;have HH:Hid ((t=10 * v)/\u=10 * v+d):=hid ⟨ht,hu⟩;split at hB
   .rename_i hno;injection hB with hB;have HPL:Hid (a=pl):=hid hB;clear hB hde hdg ht hu hy;have HG:∀ {w2:World},Cur w2 b src a->Mv b wr w2->Calls Tryz.prog 131 #[.pointer (some ⟨b,0,none⟩)] w2 fun e w'=>e=gE 4 a/\Mv b w2 w':=fun h2 m2=>dw ⟨h2,((hmv.trans m2).same 2 (by omega)).trans HR.out.c2⟩;by_cases hc:v=0/\k < a
    .obtain ⟨hv0,hka2⟩:=hc;clear hno;subst hv0;obtain ⟨j,hj⟩:∃ j:Int,j=(k:Int):=⟨_,rfl⟩;have g0:decide ((k:Int) < (a:Int))=true:=by simp;omega
     go_wp2_with fail;refine (dA hrr HD.out).mono ?_;rintro r w2 ⟨rfl,h2,m2⟩;have c0:=h2.c0;have c1:=h2.c1;go_wp2_with fail;go_quiet (fail);go_wp2_with fail;refine (HG (h2.drewN _) (m2.trans (Mv.drewN _ _ _))).mono ?_;rintro r w3 ⟨rfl,m3⟩;go_wp2_with fail;exact ⟨rfl,by rw [HPL.out],hmv.trans (m2.trans ((Mv.drewN _ _ _).trans m3))⟩
    .have hno2:u < lo\/hi < u:=by
      rcases hno with q | q
      .exact absurd q hc
      .exact q
     clear hno;have hno3:u < lo\/(¬ u < lo/\hi < u):=by omega
     clear hno2;rcases hno3 with hl | ⟨hl,hl2⟩
     .by_cases hv0:v=0
      .have hka2:a=k:=by omega
       clear hc;subst hka2;subst hv0;have ht0:t=0:=HH.out.1;have hud:u=d:=by have:=HH.out.2;omega
       clear e3 e1 q1 ht0;subst hud;go_wp2_with fail;refine (dA hrr HD.out).mono ?_;rintro r w2 ⟨rfl,h2,m2⟩;have c0:=h2.c0;have c1:=h2.c1;go_wp2_with fail;go_quiet (fail);go_wp2_with fail;refine (HG (h2.drewN _) (m2.trans (Mv.drewN _ _ _))).mono ?_;rintro r w3 ⟨rfl,m3⟩;go_wp2_with fail;exact ⟨rfl,by rw [HPL.out],hmv.trans (m2.trans ((Mv.drewN _ _ _).trans m3))⟩
      .have g0:((v:Int) == 0)=false:=by rw [Nz];omega
       clear hc;go_wp2_with fail;refine (dA hrr HD.out).mono ?_;rintro r w2 ⟨rfl,h2,m2⟩;have c0:=h2.c0;have c1:=h2.c1;go_wp2_with fail;go_quiet (fail);go_wp2_with fail;refine (HG (h2.drewN _) (m2.trans (Mv.drewN _ _ _))).mono ?_;rintro r w3 ⟨rfl,m3⟩;go_wp2_with fail;exact ⟨rfl,by rw [HPL.out],hmv.trans (m2.trans ((Mv.drewN _ _ _).trans m3))⟩
     .by_cases hv0:v=0
      .have hka2:a=k:=by omega
       clear hc;subst hka2;subst hv0;have ht0:t=0:=HH.out.1;have hud:u=d:=by have:=HH.out.2;omega
       clear e3 e1 q1 ht0;subst hud;go_wp2_with fail;refine (dA hrr HD.out).mono ?_;rintro r w2 ⟨rfl,h2,m2⟩;have c0:=h2.c0;have c1:=h2.c1;go_wp2_with fail;go_quiet (fail);go_wp2_with fail;refine (HG (h2.drewN _) (m2.trans (Mv.drewN _ _ _))).mono ?_;rintro r w3 ⟨rfl,m3⟩;go_wp2_with fail;exact ⟨rfl,by rw [HPL.out],hmv.trans (m2.trans ((Mv.drewN _ _ _).trans m3))⟩
      .have g0:((v:Int) == 0)=false:=by rw [Nz];omega
       clear hc;go_wp2_with fail;refine (dA hrr HD.out).mono ?_;rintro r w2 ⟨rfl,h2,m2⟩;have c0:=h2.c0;have c1:=h2.c1;go_wp2_with fail;go_quiet (fail);go_wp2_with fail;refine (HG (h2.drewN _) (m2.trans (Mv.drewN _ _ _))).mono ?_;rintro r w3 ⟨rfl,m3⟩;go_wp2_with fail;exact ⟨rfl,by rw [HPL.out],hmv.trans (m2.trans ((Mv.drewN _ _ _).trans m3))⟩
   .rename_i hno;have hn1:¬ (v=0/\k < a):=fun q=>hno (.inl q);have g2:¬ u < lo:=fun q=>hno (.inr (.inl q));have g3:¬ hi < u:=fun q=>hno (.inr (.inr q));have HB2:=hid hB;have HU:Hid (u<=1000000):=hid (by omega);by_cases hv0:v=0
    .have hka2:a=k:=by omega
     have hud:u=d:=by omega
     clear hB hno hde hdg ht hu hy HH;subst hka2;subst hv0;subst hud;go_wp2_with fail;refine (dA hrr HD.out).mono ?_;rintro r w2 ⟨rfl,h2,m2⟩;have c0:=h2.c0;have c1:=h2.c1;have f1:=h2.free 1;go_wp2_with fail;go_quiet (fail);go_wp2_with fail;go_round
     case rel=>exact ⟨u,a+1,m,rfl,HU.out,by omega,(h2.drewN _).step hlt,hmv.trans (m2.trans ((Mv.drewN _ _ _).trans (Mv.step _ _ _))),HB2⟩
     case measure=>rw [aC ((h2.drewN _).step hlt),HAT.out];omega
    .have g0:((v:Int) == 0)=false:=by rw [Nz];omega
     clear hB hno hde hdg ht hu hy HH;go_wp2_with fail;refine (dA hrr HD.out).mono ?_;rintro r w2 ⟨rfl,h2,m2⟩;have c0:=h2.c0;have c1:=h2.c1;have f1:=h2.free 1;go_wp2_with fail;go_quiet (fail);go_wp2_with fail;go_round
     case rel=>exact ⟨u,a+1,m,rfl,HU.out,by omega,(h2.drewN _).step hlt,hmv.trans (m2.trans ((Mv.drewN _ _ _).trans (Mv.step _ _ _))),HB2⟩
     case measure=>rw [aC ((h2.drewN _).step hlt),HAT.out];omega
theorem end_f (hr:qY w b src k) (h:gQ src (blk src k)=false) :
  Calls Tryz.prog 153 #[.pointer (some ⟨b,0,none⟩)] w fun r w'=>r=gE 4 (blk src k)/\Mv b w w':=by
 obtain ⟨f,hf⟩:∃ f,f=blk src k:=⟨_,rfl⟩;rw [<-hf] at h ⊢;have HF:=hid hf;clear hf;go_enter Tryz.func153,Tryz.ntmps153
 go_wp2_with fail;refine (dH hr.cur).mono ?_;rintro r w1 ⟨rfl,h1,m1⟩;rw [<-HF.out] at h1;have hle:=h1.le;simp only [gQ,Bool.or_eq_false_iff,decide_eq_false_iff_not] at h;obtain ⟨⟨⟨⟨hx,h10⟩,h59⟩,h35⟩,h125⟩:=h;have he:((f:Int) == (src.size:Int))=false:=by simp;omega
 clear hx;go_wp2_with fail;refine (dk h1 he).mono ?_;rintro r w2 ⟨rfl,h2,m2⟩;go_wp2_with fail;refine (di 10 h2 h10).mono ?_;rintro r w3 ⟨rfl,h3,m3⟩;go_wp2_with fail;refine (di 59 h3 h59).mono ?_;rintro r w4 ⟨rfl,h4,m4⟩;go_wp2_with fail;refine (di 35 h4 h35).mono ?_;rintro r w5 ⟨rfl,h5,m5⟩;go_wp2_with fail;refine (di 125 h5 h125).mono ?_;rintro r w6 ⟨rfl,h6,m6⟩;have m16:=m1.trans (m2.trans (m3.trans (m4.trans (m5.trans m6))));go_wp2_with fail;refine (dw (hr.move m16 h6)).mono ?_;rintro r w7 ⟨rfl,m7⟩;go_wp2_with fail;exact ⟨rfl,rfl,m16.trans m7⟩
def leaves (s:ByteArray) (k:Nat):Bool:=decide (k=s.size) || saw s k 10
theorem MB (hr:qY w b src k) (h:leaves src k=true) :
  Calls Tryz.prog 164 #[.pointer (some ⟨b,0,none⟩)] w fun e w'=>e=gE 4 k/\Mv b w w':=by
 have H:=hid h;clear h;by_cases hx:k=src.size
 .have he:((k:Int) == (src.size:Int))=true:=by simp;omega
  clear hx;go_enter Tryz.func164,Tryz.ntmps164
  go_wp2_with fail;refine (dk hr.cur he).mono ?_;rintro e w1 ⟨rfl,h1,m1⟩;go_wp2_with fail;refine (dw (hr.move m1 h1)).mono ?_;rintro r w7 ⟨rfl,m7⟩;go_wp2_with fail;exact ⟨rfl,rfl,m1.trans m7⟩
 .have he:((k:Int) == (src.size:Int))=false:=by simp;omega
  have h10:saw src k 10=true:=by have:=H.out;simpa [leaves,hx] using this
  clear hx;go_enter Tryz.func164,Tryz.ntmps164
  go_wp2_with fail;refine (dk hr.cur he).mono ?_;rintro e w1 ⟨rfl,h1,m1⟩;go_wp2_with fail;refine (di 10 h1 h10).mono ?_;rintro e w2 ⟨rfl,h2,m2⟩;go_wp2_with fail;refine (dw (hr.move (m1.trans m2) h2)).mono ?_;rintro r w7 ⟨rfl,m7⟩;go_wp2_with fail;exact ⟨rfl,rfl,m1.trans (m2.trans m7)⟩
theorem AV (hr:qY w b src k) (h:leaves src k=true) :
  Calls Tryz.prog 163 #[.pointer (some ⟨b,0,none⟩)] w fun e w'=>e=gE 4 k/\Mv b w w':=by
 have H:=hid h;clear h;go_enter Tryz.func163,Tryz.ntmps163
 go_wp2_with fail;refine (MB hr H.out).mono ?_;rintro e w1 ⟨rfl,m1⟩;go_wp2_with fail;exact ⟨rfl,rfl,m1⟩
def rQ (s:ByteArray) (esc:ByteArray) (k:Nat):Bool:=saw s k 92 && (if h:k+1 < s.size then decide (Lib.indexByte esc.data.toList s[k+1] = -1) else true)
theorem MG (esc:ByteArray) (hr:qY w b src k) (h:rQ src esc k=true) :
  Calls Tryz.prog 138 #[.pointer (some ⟨b,0,none⟩),.string esc] w fun e w'=>e=gE 4 k/\Mv b w w':=by
 have hsm:=hr.cur.small;simp only [rQ,OM] at h;obtain ⟨h92,h⟩:=h;have hk:=aK h92;have H:=hid h92;clear h92;by_cases hk1:k+1 < src.size
 .simp only [hk1,dif_pos,decide_eq_true_eq] at h;have hix:Lib.indexByte esc.data.toList ((src[k+1].toNat:Int)).toNat.toUInt8 = -1:=by simpa using h
  have HIX:=hid hix;clear h hix;obtain ⟨k1,hkk⟩:∃ k1,k1=k+1:=⟨_,rfl⟩;have e1:(k:Int)+1=(k1:Int):=by omega
  have wk:=aa k1 (by omega);have he:((k1:Int) == (src.size:Int))=false:=by rw [Nz];omega
  have hk2:k1 < src.size:=by omega
  obtain ⟨y,hy⟩:∃ y:Nat,y=(src[k+1]).toNat:=⟨_,rfl⟩;have c5:(⟨src.data⟩:ByteArray)[k1].toNat=y:=by simp only [hkk];exact hy.symm
  have HI2:Hid (Lib.indexByte esc.data.toList ((y:Int)).toNat.toUInt8 = -1):=hid (by rw [hy];exact HIX.out);clear HIX hy hkk hk1;go_enter Tryz.func138,Tryz.ntmps138
  go_wp2_with fail;refine (di 92 hr.cur H.out).mono ?_;rintro e w1 ⟨rfl,h1,m1⟩;have c0:=h1.c0;have c1:=h1.c1;go_wp2_with fail;go_quiet ((go_at_call 162;exact jY _ _ HI2.out _ _));go_wp2_with fail;refine (dw (hr.move (m1.trans (Mv.drewN _ _ _)) (h1.drewN _))).mono ?_;rintro r w7 ⟨rfl,m7⟩;go_wp2_with fail;exact ⟨rfl,rfl,m1.trans ((Mv.drewN _ _ _).trans m7)⟩
 .have he:((k:Int)+1 == (src.size:Int))=true:=by rw [beq_iff_eq];omega
  have wk:=aa (k+1) (by omega);clear h;go_enter Tryz.func138,Tryz.ntmps138
  go_wp2_with fail;refine (di 92 hr.cur H.out).mono ?_;rintro e w1 ⟨rfl,h1,m1⟩;have c0:=h1.c0;have c1:=h1.c1;go_wp2_with fail;go_quiet (fail);go_wp2_with fail;refine (dw (hr.move (m1.trans (Mv.drewN _ _ _)) (h1.drewN _))).mono ?_;rintro r w7 ⟨rfl,m7⟩;go_wp2_with fail;exact ⟨rfl,rfl,m1.trans ((Mv.drewN _ _ _).trans m7)⟩
end
theorem DK (W:World) (x:UInt8):(convert 49 9 (.slice (some ⟨W.heap.size,0,none⟩) 1 1)).run Tryz.prog (W.alloc (.cells #[.int .u8 (x.toNat:Int)] 5)) =
  .ok (.string ⟨#[x]⟩) (W.alloc (.cells #[.int .u8 (x.toNat:Int)] 5)):=
 run_convert_bytes_back (P:=Tryz.prog) _ 49 9 5 ⟨W.heap.size,0,none⟩ 1 [x] (by kernel_rfl) (by kernel_rfl) (by kernel_rfl) (fun j hj=>by
  have e:j=0:=by simp at hj;exact hj
  subst e
  simp [go_sem])
def pk (c n:Int):Int:=(if c < 0 then -(c+1) else c) % n
theorem pk_bd (c n:Int) (h:0 < n):0<=pk c n/\pk c n < n:=⟨Int.emod_nonneg _ (by omega),Int.emod_lt_of_pos _ h⟩
theorem F0 {a b:Int} (h:a=b):Ending.returned (.int .i64 a)=.returned (.int .i64 b):=by rw [h]
theorem Bh (c n:Int) (h1 : -9223372036854775808<=c) (h2:c<=9223372036854775807) (h3:0 < n) (h4:n<=562949953421312) (w:World) :
  Calls Tryz.prog 15 #[.int .i64 c,.int .i64 n] w fun e w'=>e=.returned (.int .i64 (pk c n))/\w'=w:=by
 by_cases hc:c < 0
 .have hn:¬ n=0:=by omega
  go_enter Tryz.func15,Tryz.ntmps15
  go_wp2;go_ret;refine ⟨?_,rfl⟩;refine F0 ?_;unfold pk;rw [Ny hc,<-Int.neg_tmod,Int.tmod_eq_emod_of_nonneg (by omega)]
 .have hn:¬ n=0:=by omega
  go_enter Tryz.func15,Tryz.ntmps15
  go_wp2;go_ret;refine ⟨?_,rfl⟩;refine F0 ?_;unfold pk;rw [Nr (by omega)]
structure qU (w:World) (A:Option Addr) (n:Nat) (z:Nat->Int):Prop where
 at_:∀ j,j < n->∃ ad,A=some ad/\w.cell? (ad.add j)=some (.int .i64 (z j))
 bd:∀ j,j < n->-9223372036854775808<=z j/\z j<=9223372036854775807
theorem qU.aj {w w':World} {A:Option Addr} {n:Nat} {z:Nat->Int} (h:qU w A n z) (k:Kp [] w w'):qU w' A n z:=
 ⟨fun j hj=>by
   obtain ⟨ad,e,hc⟩:=h.at_ j hj
   exact ⟨ad,e,(k.cell (World.block_lt_of_cell? _ _ hc) (by simp)).trans hc⟩,h.bd⟩
theorem oN (W:World) (c:Nat) (hc:c < 256):(convert 49 9 (.slice (some ⟨W.heap.size,0,none⟩) 1 1)).run Tryz.prog (W.alloc (.cells #[.int .u8 (c:Int)] 5))=.ok (.string ⟨#[c.toUInt8]⟩) (W.alloc (.cells #[.int .u8 (c:Int)] 5)):=by
 have h:=DK W c.toUInt8;have e:((c.toUInt8).toNat:Int)=(c:Int):=by
  have:(c.toUInt8).toNat=c:=by show c % 256=c;omega
  rw [this]
 rw [e] at h;exact h
theorem qH (W:World):(convert 49 9 (.slice (some ⟨W.heap.size,0,none⟩) 1 1)).run Tryz.prog (W.alloc (.cells #[.int .u8 97] 5))=.ok (.string ⟨#[97]⟩) (W.alloc (.cells #[.int .u8 97] 5)):=oN W 97 (by omega)
theorem qG (W:World):(convert 49 9 (.slice (some ⟨W.heap.size,0,none⟩) 1 1)).run Tryz.prog (W.alloc (.cells #[.int .u8 98] 5))=.ok (.string ⟨#[98]⟩) (W.alloc (.cells #[.int .u8 98] 5)):=oN W 98 (by omega)
theorem DJ (W:World):(convert 49 9 (.slice (some ⟨W.heap.size,0,none⟩) 1 1)).run Tryz.prog (W.alloc (.cells #[.int .u8 99] 5))=.ok (.string ⟨#[99]⟩) (W.alloc (.cells #[.int .u8 99] 5)):=oN W 99 (by omega)
theorem gR {S:ByteArray} {c:UInt8} (h:∀ u∈S.data.toList,u=97\/u=98\/u=99) (hc:c=97\/c=98\/c=99):∀ u∈(S++⟨#[c]⟩:ByteArray).data.toList,u=97\/u=98\/u=99:=by
 intro u hu;rw [ByteArray.data_append,Array.toList_append] at hu;rcases List.mem_append.1 hu with q | q
 .exact h u q
 .rw [List.mem_singleton.1 (show u∈[c] from q)];exact hc
theorem JB (raw most:Int) (h1 : -9223372036854775808<=raw) (h2:raw<=9223372036854775807) (h3:0 < most) (h4:most<=6) (w:World) :
  Calls Tryz.prog 30 #[.int .i64 raw,.int .i64 most] w fun e w'=>∃ W:ByteArray,e=.returned (.string W)/\(∀ u∈W.data.toList,u=97\/u=98\/u=99)/\((W.size:Int)<=most/\1<=W.size)/\Kp [] w w':=by
 go_enter Tryz.func30,Tryz.ntmps30
 go_wp2_with fail;refine (Bh raw most h1 h2 h3 (by omega) _).mono ?_;rintro e w1 ⟨rfl,rfl⟩;obtain ⟨p1,p2⟩:=pk_bd raw most h3;obtain ⟨n,hn⟩:∃ n:Nat,pk raw most+1=(n:Int):=⟨(pk raw most+1).toNat,by omega⟩;obtain ⟨z,hz⟩:∃ z,pk raw most=z:=⟨_,rfl⟩;rw [hz] at hn p1 p2 ⊢;clear hz;have wn:=aa n (by omega);go_wp2_with fail;obtain ⟨y,hy⟩:∃ y,raw.tdiv 7=y:=⟨_,rfl⟩;have hyb : -9223372036854775808<=y/\y<=9223372036854775807:=by
  rw [<-hy];rcases Int.le_total 0 raw with h | h
  .rw [O8 h];omega
  .rw [show raw = -(-raw) by omega,Int.neg_tdiv,O8 (by omega)];omega
 rw [hy];clear hy;refine (Bh y 1099511627776 hyb.1 hyb.2 (by omega) (by omega) _).mono ?_;rintro e w2 ⟨rfl,rfl⟩;obtain ⟨q1,q2⟩:=pk_bd y 1099511627776 (by omega);obtain ⟨r0,hr0⟩:∃ r0:Nat,pk y 1099511627776=(r0:Int):=⟨(pk y 1099511627776).toNat,by omega⟩;rw [hr0] at q1 q2 ⊢;have hnb:1<=n/\(n:Int)<=most:=by omega
 clear hr0 hyb hn p1 p2;go_wp2_with fail;go_loopw [0,6,7] (fun rv s i wr=>∃ (k r:Nat) (S:ByteArray),k<=n/\r < 1099511627776/\rv=.int .i64 r/\s=.string S/\i=.int .i64 k/\S.size=k/\Hid (∀ u∈S.data.toList,u=97\/u=98\/u=99)/\Kp [] w2 wr) (fun _ _ i _=>n - (intOf i).toNat)
 case atStart=>exact ⟨0,r0,⟨#[]⟩,by omega,by omega,rfl,rfl,rfl,rfl,hid (fun u hu=>by cases hu),Kp.refl _ _⟩
 case round=>
  obtain ⟨k,r,S,hk,hr,rfl,rfl,rfl,hS,HS,kp⟩:=hrel;by_cases hlt:k < n
  .obtain ⟨k1,hk1⟩:∃ k1:Nat,(k:Int)+1=(k1:Int):=⟨k+1,by omega⟩;have wk1:=aa k1 (by omega);have HK:=hid (show k1=k+1 by omega);obtain ⟨d,hd⟩:∃ d:Nat,(r:Int).tdiv 5=(d:Int)/\d < 1099511627776:=⟨r / 5,by rw [O8 (by omega)];omega,by omega⟩;obtain ⟨hd1,hd2⟩:=hd;have wd:=aa d (by omega);have hm:(r:Int).tmod 5=(r:Int) % 5:=Int.tmod_eq_emod_of_nonneg (by omega);have hz1:¬ 9223372036854775807 < S.size+1:=by omega
   rcases (show (r:Int) % 5=0\/(r:Int) % 5=1\/(r:Int) % 5=2\/(r:Int) % 5=3\/(r:Int) % 5=4 by omega) with h5 | h5 | h5 | h5 | h5
   .have hmm:(r:Int).tmod 5=0:=by rw [hm];omega
    have ix:((((⟨#[97,97,98,98,99]⟩:ByteArray)[0]'(by decide)).toNat:Nat):Int)=97:=rfl;have kc:=qH wr;clear hm;go_wp2_with fail;refine ⟨⟨k1,d,_,by omega,hd2,rfl,rfl,rfl,?_,hid ?_,kp.trans (Kp.alloc _ _ _)⟩,by simp [intOf];omega⟩
    .rw [NU,hS];exact HK.out.symm
    .exact gR HS.out (by decide)
   .have hmm:(r:Int).tmod 5=1:=by rw [hm];omega
    have ix:((((⟨#[97,97,98,98,99]⟩:ByteArray)[1]'(by decide)).toNat:Nat):Int)=97:=rfl;have kc:=qH wr;clear hm;go_wp2_with fail;refine ⟨⟨k1,d,_,by omega,hd2,rfl,rfl,rfl,?_,hid ?_,kp.trans (Kp.alloc _ _ _)⟩,by simp [intOf];omega⟩
    .rw [NU,hS];exact HK.out.symm
    .exact gR HS.out (by decide)
   .have hmm:(r:Int).tmod 5=2:=by rw [hm];omega
    have ix:((((⟨#[97,97,98,98,99]⟩:ByteArray)[2]'(by decide)).toNat:Nat):Int)=98:=rfl;have kc:=qG wr;clear hm;go_wp2_with fail;refine ⟨⟨k1,d,_,by omega,hd2,rfl,rfl,rfl,?_,hid ?_,kp.trans (Kp.alloc _ _ _)⟩,by simp [intOf];omega⟩
    .rw [NU,hS];exact HK.out.symm
    .exact gR HS.out (by decide)
   .have hmm:(r:Int).tmod 5=3:=by rw [hm];omega
    have ix:((((⟨#[97,97,98,98,99]⟩:ByteArray)[3]'(by decide)).toNat:Nat):Int)=98:=rfl;have kc:=qG wr;clear hm;go_wp2_with fail;refine ⟨⟨k1,d,_,by omega,hd2,rfl,rfl,rfl,?_,hid ?_,kp.trans (Kp.alloc _ _ _)⟩,by simp [intOf];omega⟩
    .rw [NU,hS];exact HK.out.symm
    .exact gR HS.out (by decide)
   .have hmm:(r:Int).tmod 5=4:=by rw [hm];omega
    have ix:((((⟨#[97,97,98,98,99]⟩:ByteArray)[4]'(by decide)).toNat:Nat):Int)=99:=rfl;have kc:=DJ wr;clear hm;go_wp2_with fail;refine ⟨⟨k1,d,_,by omega,hd2,rfl,rfl,rfl,?_,hid ?_,kp.trans (Kp.alloc _ _ _)⟩,by simp [intOf];omega⟩
    .rw [NU,hS];exact HK.out.symm
    .exact gR HS.out (by decide)
  .go_wp2_with fail;go_ret;obtain rfl:n=k:=by omega
   exact ⟨S,rfl,HS.out,⟨by omega,by omega⟩,kp⟩
def yi (l:List UInt8):Prop:=l.length<=107/\∀ u∈l,u=97\/u=98\/u=99\/u=32
structure Lns (lo:Nat) (w:World) (v:Value) (ls:List (List UInt8)):Prop where
 own:w.ownsRow lo 9 1 v ls.length (ls.map fun l=>Value.string (ba l))
 ok:∀ l∈ls,yi l
theorem Lns.aj {lo:Nat} {w w':World} {v:Value} {ls:List (List UInt8)} (h:Lns lo w v ls) (k:Kp [] w w'):Lns lo w' v ls:=
 ⟨ag h.own (fun p hp=>k.block p (az h.own hp).2 (by simp)),h.ok⟩
theorem Lns.form {lo:Nat} {w:World} {v:Value} {ls:List (List UInt8)} (h:Lns lo w v ls):∃ A c,v=.slice A ls.length c/\∀ j l,ls[j]? = some l->∃ g,A=some ⟨g,0,none⟩/\w.cell? ⟨g,j,none⟩=some (.string (ba l)):=by
 rcases h.own.2 with ⟨e,e2⟩ | ⟨g,cap,cur,e,_⟩
 .refine ⟨none,0,by rw [e,e2],fun j l hj=>?_⟩;have:=(List.getElem?_eq_some_iff.1 hj).1;omega
 .refine ⟨some ⟨g,0,none⟩,cap,e,fun j l hj=>⟨g,rfl,?_⟩⟩;have o:=h.own;rw [e] at o;have hlt:=(List.getElem?_eq_some_iff.1 hj).1;rw [o.cellAt j (by omega),N6,hj];rfl
theorem kp_grow {w w4 w5:World} {v:Value} {n:Nat} {xs:List Value} {e:TypeId} (k:Kp [] w w4) (ow:w4.ownsRow w.heap.size e 1 v n xs) (hg:w4.grownBy w5 v.ownBlock):Kp [] w w5:=by
 have kg:=aR (S:=v.ownBlock.toList) hg (fun p hp=>by rw [hp];simp);have hge:∀ x,x∈(Value.ownBlock v).toList->w.heap.size<=x:=fun x hx=>(az ow (by simpa using hx)).1;exact ⟨kg.os.trans k.os,kg.tape.trans k.tape,kg.output.trans k.output,Nx k.size kg.size,fun q hq hn=>(kg.block q (Ns hq k.size) (fun e=>by have:=hge q e;omega)).trans (k.block q hq hn)⟩
theorem Lns.push {w w3 w5:World} {v:Value} {ls:List (List UInt8)} {g cap:Nat} {l:List UInt8} {o:Obj} (h:Lns w.heap.size w3 v ls) (ho:w5.ownsRow w.heap.size 9 1 (.slice (some ⟨g,0,none⟩) (ls.length+1) cap) (ls.length+1) ((ls.map fun l=>Value.string (ba l))++[.string (ba l)])) (hl:yi l) (k:Kp [] w w3) (hg:(w3.alloc o).grownBy w5 v.ownBlock) :
  Lns w.heap.size w5 (.slice (some ⟨g,0,none⟩) (ls.length+1) cap) (ls++[l])/\Kp [] w w5:=by
 refine ⟨⟨?_,fun x hx=>?_⟩,kp_grow (k.trans (Kp.alloc [] w3 o)) (h.aj (Kp.alloc [] w3 o)).own hg⟩
 .rw [Nu,N8];exact ho
 .rcases List.mem_append.1 hx with q | q
  .exact h.ok x q
  .rw [List.mem_singleton.1 q];exact hl
theorem qs {a b:List UInt8} (ha:∀ u∈a,u=97\/u=98\/u=99\/u=32) (hb:∀ u∈b,u=97\/u=98\/u=99\/u=32):∀ u∈a++b,u=97\/u=98\/u=99\/u=32:=fun u hu=>by
 rcases List.mem_append.1 hu with q | q
 .exact ha u q
 .exact hb u q
theorem Hk (A:Option Addr) (n c:Nat) (z:Nat->Int) (w:World) (hn:n < 9223372036854775808) (hz:qU w A n z) :
  Calls Tryz.prog 17 #[.slice A n c] w fun e w'=>∃ v ls,e=.returned v/\Lns w.heap.size w' v ls/\1<=ls.length/\ls.length<=13/\Kp [] w w':=by
 obtain ⟨i0,hi,hz0,hz1,hz2⟩:=info_parts Tryz.zm;have HI:=hid (And.intro hi (And.intro hz0 (And.intro hz1 hz2)));have HZ:=hid hz;clear hi hz0 hz1 hz2 hz;go_enter Tryz.func17,Tryz.ntmps17
 go_wp2_with fail;go_loopw [3,4,5] (fun l s i wr=>∃ (k:Nat) (S:List UInt8) (ls:List (List UInt8)),k<=n/\i=.int .i64 k/\s=.string (ba S)/\S.length<=101/\ls.length<=12/\Hid (∀ u∈S,u=97\/u=98\/u=99\/u=32)/\Hid (Lns w.heap.size wr l ls)/\Kp [] w wr) (fun _ _ i _=>n - (intOf i).toNat)
 case atStart=>exact ⟨0,[],[],by omega,rfl,rfl,by simp,by simp,hid (fun u hu=>by cases hu),hid ⟨World.ownsRow_nil _ _ _ _,fun l hl=>by cases hl⟩,Kp.refl _ _⟩
 case round=>
  obtain ⟨k,S,ls,hk,rfl,rfl,hS,hls,HS,HL,kp⟩:=hrel;obtain ⟨A',c',ev,hcell⟩:=HL.out.form;subst ev;by_cases hkn:k < n
  .by_cases hl12:ls.length < 12
   .obtain ⟨ad,rfl,hc⟩:=(HZ.out.aj kp).at_ k hkn;have hb:=HZ.out.bd k hkn;obtain ⟨x,hx⟩:∃ x,x=z k:=⟨_,rfl⟩;rw [<-hx] at hc hb;clear hx;obtain ⟨k1,hk1⟩:∃ k1:Nat,(k:Int)+1=(k1:Int):=⟨k+1,by omega⟩;have wk:=aa k1 (by omega);obtain ⟨t,ht⟩:∃ t,x.tmod 3=t:=⟨_,rfl⟩;go_wp2_with fail;refine (JB x 6 hb.1 hb.2 (by omega) (by omega) _).mono ?_;rintro e w2 ⟨W,rfl,hW,⟨hW6,_⟩,k2⟩;obtain ⟨Wl,rfl⟩:∃ Wl,W=ba Wl:=⟨W.data.toList,(Mg W).symm⟩;rw [dQ] at hW;rw [ay] at hW6;obtain ⟨T,hT⟩:∃ T,T=S++Wl:=⟨_,rfl⟩;have happ:ba S++ba Wl=ba T:=by rw [jC,hT]
    have hsz:¬ 9223372036854775807 < (ba S).size+(ba Wl).size:=by rw [ay,ay];omega
    have hTl:T.length<=107:=by rw [hT,Nu];omega
    have HTU:Hid (∀ u∈T,u=97\/u=98\/u=99\/u=32):=hid (by
     rw [hT]
     exact qs HS.out (fun u hu=>by rcases hW u hu with q | q | q <;> simp [q]))
    have HLO:Hid (yi T):=hid ⟨hTl,HTU.out⟩;have L2:=hid (HL.out.aj k2);have K2:=hid (kp.trans k2);have hc2:w2.cell? (ad.add k)=some (.int .i64 x):=(k2.cell (World.block_lt_of_cell? _ _ hc) (by simp)).trans hc;have OWN:Hid ((w2.alloc (.cells #[.string (ba T)] 9)).ownsRow w.heap.size 9 1 (.slice A' ls.length c') ls.length (ls.map fun l=>Value.string (ba l))):=hid (L2.out.aj (Kp.alloc [] w2 _)).own;have HSZ:Hid (w.heap.size<=(w2.alloc (.cells #[.string (ba T)] 9)).heap.size):=hid (Nx K2.out.size (Kp.alloc [] w2 _).size);have hts:(ba T).size=T.length:=ay T;clear hT hW hcell kp k2 hc HS HL
    cases hq:(t == 0)
    .by_cases h100:100 < T.length
     .go_wp2_with (at_builtin;refine dh rfl _ _ 42 rfl w.heap.size 9 i0 (.string ⟨#[]⟩) 1 16 Tryz.underlying42 HI.out.1 HI.out.2.1 HI.out.2.2.1 HI.out.2.2.2 rfl (by decide) (.slice A' ls.length c') ls.length (ls.map fun l=>Value.string (ba l)) rfl OWN.out ⟨w2.heap.size,0,none⟩ 1 1 [.string (ba T)] rfl rfl (fun j u hu=>by rw [Addr.add_mid,NJ];exact (Bl.alloc w2 [.string (ba T)] 9).at_ j u hu) (fun u hu=>by simp at hu;subst hu;rfl) (by unfold maxLen;omega) (by omega) HSZ.out (by omega) ?_;intro g cap w5 ho hg hor)
      obtain ⟨L5,K5⟩:=L2.out.push ho HLO.out K2.out hg;go_round
      case rel=>exact ⟨k1,[],ls++[T],by omega,rfl,rfl,by simp,by simp;omega,hid (fun u hu=>by cases hu),hid L5,K5⟩
      case measure=>simp [intOf];omega
     .have hs2:¬ 9223372036854775807 < T.length+1:=by omega
      go_wp2_with fail;go_round
      case rel=>exact ⟨k1,T++[32],ls,by omega,rfl,by rw [show (⟨#[32]⟩:ByteArray)=ba [32] from rfl,jC],by simp;omega,by omega,hid (qs HTU.out (fun u hu=>by simp at hu;simp [hu])),L2,K2.out⟩
      case measure=>simp [intOf];omega
    .go_wp2_with (at_builtin;refine dh rfl _ _ 42 rfl w.heap.size 9 i0 (.string ⟨#[]⟩) 1 16 Tryz.underlying42 HI.out.1 HI.out.2.1 HI.out.2.2.1 HI.out.2.2.2 rfl (by decide) (.slice A' ls.length c') ls.length (ls.map fun l=>Value.string (ba l)) rfl OWN.out ⟨w2.heap.size,0,none⟩ 1 1 [.string (ba T)] rfl rfl (fun j u hu=>by rw [Addr.add_mid,NJ];exact (Bl.alloc w2 [.string (ba T)] 9).at_ j u hu) (fun u hu=>by simp at hu;subst hu;rfl) (by unfold maxLen;omega) (by omega) HSZ.out (by omega) ?_;intro g cap w5 ho hg hor)
     obtain ⟨L5,K5⟩:=L2.out.push ho HLO.out K2.out hg;go_round
     case rel=>exact ⟨k1,[],ls++[T],by omega,rfl,rfl,by simp,by simp;omega,hid (fun u hu=>by cases hu),hid L5,K5⟩
     case measure=>simp [intOf];omega
   .have OWN:Hid ((wr.alloc (.cells #[.string (ba S)] 9)).ownsRow w.heap.size 9 1 (.slice A' ls.length c') ls.length (ls.map fun l=>Value.string (ba l))):=hid (HL.out.aj (Kp.alloc [] wr _)).own;have HSZ:Hid (w.heap.size<=(wr.alloc (.cells #[.string (ba S)] 9)).heap.size):=hid (Nx kp.size (Kp.alloc [] wr _).size);have KP:=hid kp;clear hcell kp;go_wp2_with (at_builtin;refine dh rfl _ _ 42 rfl w.heap.size 9 i0 (.string ⟨#[]⟩) 1 16 Tryz.underlying42 HI.out.1 HI.out.2.1 HI.out.2.2.1 HI.out.2.2.2 rfl (by decide) (.slice A' ls.length c') ls.length (ls.map fun l=>Value.string (ba l)) rfl OWN.out ⟨wr.heap.size,0,none⟩ 1 1 [.string (ba S)] rfl rfl (fun j u hu=>by rw [Addr.add_mid,NJ];exact (Bl.alloc wr [.string (ba S)] 9).at_ j u hu) (fun u hu=>by simp at hu;subst hu;rfl) (by unfold maxLen;omega) (by omega) HSZ.out (by omega) ?_;intro g cap w5 ho hg hor)
    go_ret;obtain ⟨L5,K5⟩:=HL.out.push ho ⟨by omega,HS.out⟩ KP.out hg;exact ⟨_,ls++[S],rfl,L5,by simp,by simp;omega,K5⟩
  .have OWN:Hid ((wr.alloc (.cells #[.string (ba S)] 9)).ownsRow w.heap.size 9 1 (.slice A' ls.length c') ls.length (ls.map fun l=>Value.string (ba l))):=hid (HL.out.aj (Kp.alloc [] wr _)).own;have HSZ:Hid (w.heap.size<=(wr.alloc (.cells #[.string (ba S)] 9)).heap.size):=hid (Nx kp.size (Kp.alloc [] wr _).size);have KP:=hid kp;clear hcell kp;go_wp2_with (at_builtin;refine dh rfl _ _ 42 rfl w.heap.size 9 i0 (.string ⟨#[]⟩) 1 16 Tryz.underlying42 HI.out.1 HI.out.2.1 HI.out.2.2.1 HI.out.2.2.2 rfl (by decide) (.slice A' ls.length c') ls.length (ls.map fun l=>Value.string (ba l)) rfl OWN.out ⟨wr.heap.size,0,none⟩ 1 1 [.string (ba S)] rfl rfl (fun j u hu=>by rw [Addr.add_mid,NJ];exact (Bl.alloc wr [.string (ba S)] 9).at_ j u hu) (fun u hu=>by simp at hu;subst hu;rfl) (by unfold maxLen;omega) (by omega) HSZ.out (by omega) ?_;intro g cap w5 ho hg hor)
   go_ret;obtain ⟨L5,K5⟩:=HL.out.push ho ⟨by omega,HS.out⟩ KP.out hg;exact ⟨_,ls++[S],rfl,L5,by simp,by simp;omega,K5⟩
theorem En (ls:List (List UInt8)) (h:∀ l∈ls,yi l):(wh ls).length<=108 * ls.length:=by
 induction ls with
 | nil=>simp [wh]
 | cons l ls ih=>
  have h1:=(h l (by simp)).1;have h2:=ih (fun l hl=>h l (by simp [hl]));rw [show wh (l::ls)=(l++[10])++wh ls by simp [wh],Nu,Nu];simp;omega
theorem whole_p {w:World} {A:Option Addr} {c:Nat} {ls:List (List UInt8)} (hok:∀ l∈ls,yi l) (hcell:∀ j l,ls[j]? = some l->∃ g,A=some ⟨g,0,none⟩/\w.cell? ⟨g,j,none⟩=some (.string (ba l))) (hn:ls.length<=100) :
  Calls Tryz.prog 18 #[.slice A ls.length c] w fun e w'=>e=.returned (.string (ba (wh ls)))/\w'=w:=by
 have HC:=hid hcell;have HH:=hid hok;clear hcell hok;go_enter Tryz.func18,Tryz.ntmps18
 go_wp2_with fail;go_loopw [3,4] (fun s i wr=>∃ k:Nat,k<=ls.length/\i=.int .i64 k/\s=.string (ba (wh (ls.take k)))/\wr=w) (fun _ i _=>ls.length - (intOf i).toNat)
 case atStart=>exact ⟨0,by omega,rfl,rfl,rfl⟩
 case round=>
  obtain ⟨k,hk,rfl,rfl,rfl⟩:=hrel;by_cases hkn:k < ls.length
  .obtain ⟨l,hl⟩:∃ l,ls[k]? = some l:=⟨_,Nv hkn⟩;obtain ⟨g,rfl,hc⟩:=HC.out k l hl;obtain ⟨k1,hk1⟩:∃ k1:Nat,(k:Int)+1=(k1:Int):=⟨k+1,by omega⟩;have wk:=aa k1 (by omega);obtain ⟨S,hS⟩:∃ S,S=wh (ls.take k):=⟨_,rfl⟩;have hSl:S.length<=10800:=by
    rw [hS];have:=En (ls.take k) (fun l hl=>HH.out l (OK hl));rw [N3] at this;omega
   have hll:=(HH.out l (NM hl)).1;have ap1:ba S++ba l=ba (S++l):=jC _ _;have z1:¬ 9223372036854775807 < S.length+l.length:=by omega
   have zs:=ay S;have zl:=ay l;have zsl:(ba (S++l)).size=S.length+l.length:=by rw [ay,Nu]
   have z2:¬ 9223372036854775807 < S.length+l.length+1:=by omega
   rw [<-hS];have HL:=hid hl;have HS:=hid hS;clear hl hS;go_wp2_with fail;go_round
   case rel=>
    refine ⟨k1,by omega,rfl,?_,by trivial⟩;have e:k1=k+1:=by omega
    rw [e,OU,HL.out,Pp,show wh (ls.take k++[l])=wh (ls.take k)++(l++[10]) by simp [wh],<-HS.out,show (⟨#[10]⟩:ByteArray)=ba [10] from rfl,jC,NP]
   case measure=>simp [intOf];omega
  .have e:k=ls.length:=by omega
   subst e;go_wp2_with fail;go_ret;exact ⟨by rw [Oj];rfl,rfl⟩
theorem Ej {lo:Nat} {w:World} {v:Value} {ls:List (List UInt8)} (h:Lns lo w v ls) (hn:ls.length<=100) :
  Calls Tryz.prog 18 #[v] w fun e w'=>e=.returned (.string (ba (wh ls)))/\w'=w:=by
 obtain ⟨A,c,ev,hcell⟩:=h.form;subst ev;exact whole_p h.ok hcell hn
