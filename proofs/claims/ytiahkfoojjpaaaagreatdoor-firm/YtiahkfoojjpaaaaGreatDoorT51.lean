import Derived.Test.YtiahkfoojjpaaaaGreatDoorT50
set_option maxRecDepth 100000
set_option maxHeartbeats 16000000
set_option linter.all false
namespace Go.Proofs.YtiahkfoojjpaaaaGreatDoor
open Go.RowKit
def zb (N:Nat):Array Value:=madeCells #[.int .u8 0] N
def nl (N:Nat):List UInt8:=List.replicate N 0
theorem qy (N:Nat):(nl N).length=N:=OB
theorem qF (w:World) (N:Nat) (h:N<=1000000):(Instr.makeSlice 49 (.int .i64 (N:Int)) (.int .i64 (N:Int))).run Tryz.prog w=.ok (.slice (some ⟨w.heap.size,0,none⟩) N N) (w.alloc (.cells (zb N) 5)):=by
 obtain ⟨i,hi,hz0,hz1,hz2⟩:=info_parts Tryz.eQ;have:=run_makeSlice (P:=Tryz.prog) w 49 5 i (.int .u8 0) (by kernel_rfl) hi hz0 .i64 .i64 N N (by omega) (by omega) (by rw [hz1];omega) (by rw [hz2];omega) (by omega);rw [hz1] at this;simpa [zb,Value.cells] using this
theorem qQ (W:World) (N:Nat):(convert 49 9 (.slice (some ⟨W.heap.size,0,none⟩) N N)).run Tryz.prog (W.alloc (.cells (zb N) 5))=.ok (.string (ba (nl N))) (W.alloc (.cells (zb N) 5)):=by
 have h:=run_convert_bytes_back (P:=Tryz.prog) (W.alloc (.cells (zb N) 5)) 49 9 5 ⟨W.heap.size,0,none⟩ N (nl N) (by kernel_rfl) (by kernel_rfl) (by kernel_rfl) (fun j hj=>by
  have h0:(zb N).toList[j]? = some (.int .u8 0):=by
   unfold zb;rw [toList_madeCells_one,N9,Ny (by rw [qy] at hj;exact hj)]
  have e:(nl N)[j]=0:=by
   unfold nl;exact List.getElem_replicate _
  rw [e];have:=dH W (zb N) 5 j _ h0;rw [NJ] at this;rw [addr_add,NJ]
  exact this)
 rw [qy] at h;exact h
abbrev enV:List Value:=[.string ⟨#[58,97,59,98,32,97]⟩,.string ⟨#[115,47,36,47,38,48,49,50,51,52,53,54,55,56,57,47,59,58,97,59,71,59,104,59,98,32,97]⟩,.string ⟨#[112]⟩,.string ⟨#[105,32,120,10,58,97,59,115,47,36,47,48,49,50,51,52,53,54,55,56,57,48,49,50,51,52,53,54,55,56,57,48,49,50,51,52,53,54,55,56,57,48,49,50,51,52,53,54,55,56,57,47,59,112,59,98,32,97]⟩]
abbrev inV (X:ByteArray):List Value:=[.string ⟨#[120,10]⟩,.string ⟨#[120,10]⟩,.string X,.string ⟨#[120,10]⟩]
abbrev whV:List Value:=[.int .i64 7,.int .i64 8,.int .i64 9,.int .i64 8]
theorem en_at {j:Nat} (h:j < 4):∃ (B:ByteArray) (d:List UInt8) (E:Nat) (S:fj) (o:List UInt8),enV[j]? = some (.string B)/\(inV (ba (nl 1001++[120,10])))[j]? = some (.string (ba d))/\whV[j]? = some (.int .i64 E)/\scrE B=.ok S/\d.length<=100000 /\
  ((fX S.ahead S.names.length S.ranges).feed S d).1=⟨o,true,E,0⟩/\(((fX S.ahead S.names.length S.ranges).feed S d).2.end_ S).1=⟨[],true,E,0⟩:=by
 have key:∀ (B:ByteArray) (d:List UInt8) (E:Nat),enV[j]? = some (.string B)->(inV (ba (nl 1001++[120,10])))[j]? = some (.string (ba d))->whV[j]? = some (.int .i64 E)->scrE B=.ok (dN B)->d.length<=100000->Gvs (dN B) E (fun v=>v.status=0) { fX (dN B).ahead (dN B).names.length (dN B).ranges with left:=d }->∃ (B:ByteArray) (d:List UInt8) (E:Nat) (S:fj) (o:List UInt8),enV[j]? = some (.string B)/\(inV (ba (nl 1001++[120,10])))[j]? = some (.string (ba d))/\whV[j]? = some (.int .i64 E)/\scrE B=.ok S/\d.length<=100000 /\
  ((fX S.ahead S.names.length S.ranges).feed S d).1=⟨o,true,E,0⟩/\(((fX S.ahead S.names.length S.ranges).feed S d).2.end_ S).1=⟨[],true,E,0⟩:=fun B d E h1 h2 h3 h4 h5 h6=>by
  obtain ⟨v,q,f1,f2⟩:=xI (Fo h4) h5 h6;rw [q] at f1 f2;exact ⟨B,d,E,_,_,h1,h2,h3,h4,h5,f1,f2⟩
 match j,h with
 | 0,_=>exact key Ec [120,10] 7 rfl rfl rfl en_scr0 (by decide) ends0
 | 1,_=>exact key xM [120,10] 8 rfl rfl rfl en_scr1 (by decide) ends1
 | 2,_=>exact key MY (nl 1001++[120,10]) 9 rfl rfl rfl en_scr2 (by rw [Nu,qy];show 1001+2<=_;omega) (ends2 rfl)
 | 3,_=>exact key ue [120,10] 8 rfl rfl rfl en_scr3 (by decide) ends3
def mnB (k:Nat):List UInt8:=(List.replicate k [112,59]).flatten
theorem Hf (k:Nat):mnB (k+1)=mnB k++[112,59]:=by
 unfold mnB;rw [Ph,List.flatten_append]
 rfl
theorem mn_len (k:Nat):(mnB k).length=2 * k:=by
 induction k with
 | zero=>rfl
 | succ k ih=>rw [Hf,Nu,ih];rfl
theorem Eo (Z:List UInt8) (k:Nat):wh (List.replicate (k+1) Z)=wh (List.replicate k Z)++Z++[10]:=by
 rw [Ph];simp [wh]
theorem Ek (Z:List UInt8) (k:Nat):(wh (List.replicate k Z)).length=k * (Z.length+1):=by
 induction k with
 | zero=>simp [wh]
 | succ k ih=>rw [Eo,Nu,Nu,ih,NU,Nat.succ_mul];omega
section
variable {w:World}
theorem Lk (x y:Int) (hx1 : -9223372036854775808<=x) (hx2:x<=9223372036854775807) (hy1 : -9223372036854775808<=y) (hy2:y<=9223372036854775807) (w:World) (hw:Nm w) (hpw:Pow w) :
  Calls Tryz.prog 6 #[.int .i64 x,.int .i64 y] w fun e w'=>e=.returned (.bool true)/\Kp [] w w':=by
 have HNM:Hid (∀ w1,Kp [] w w1->Nm w1):=hid (fun w1 k1=>hw.aj k1 (by simp));have HPW:Hid (∀ w1,Kp [] w w1->Pow w1):=hid (fun w1 k1=>hpw.aj k1);have HPX:=hid (fun w=>Bo x 26 hx1 hx2 (by omega) (by omega) w);have HPY:=hid (fun w=>Bo y 30 hy1 hy2 (by omega) (by omega) w);obtain ⟨k,hk,hk26⟩:∃ k:Nat,pk x 26=(k:Int)/\k < 26:=by
  obtain ⟨p1,p2⟩:=pk_bd x 26 (by omega);exact ⟨(pk x 26).toNat,by omega,by omega⟩
 obtain ⟨m,hm,hm30⟩:∃ m:Nat,pk y 30=(m:Int)/\m < 30:=by
  obtain ⟨p1,p2⟩:=pk_bd y 30 (by omega);exact ⟨(pk y 30).toNat,by omega,by omega⟩
 rw [hk] at HPX;rw [hm] at HPY;have K1:=(Kp.alloc [] w (.cells ptV.toArray 9)).trans (Kp.alloc [] _ (.cells ptW.toArray 3));have B1:=(Bl.alloc w ptV 9).aj (Kp.alloc [] _ (.cells ptW.toArray 3)) (by simp);have B2:=Bl.alloc (w.alloc (.cells ptV.toArray 9)) ptW 3;obtain ⟨b1,hb1⟩:∃ b,b=w.heap.size:=⟨_,rfl⟩;obtain ⟨b2,hb2⟩:∃ b,b=b1+1:=⟨_,rfl⟩;have hz:(w.alloc (.cells ptV.toArray 9)).heap.size=b2:=by rw [hb2,hb1];simp
 obtain ⟨w2,hw2⟩:∃ w2,w2=(w.alloc (.cells ptV.toArray 9)).alloc (.cells ptW.toArray 3):=⟨_,rfl⟩;rw [<-hw2,<-hb1] at B1;rw [<-hw2,hz] at B2;rw [<-hw2] at K1;have HW2:=hid (And.intro hw2 (And.intro hb1 hb2));have H2:=hid (And.intro K1 (And.intro B1 B2));clear hw hpw hx1 hx2 hy1 hy2 hk hm K1 B1 B2 hw2 hb1 hb2 hz;go_enter Tryz.func6,Tryz.ntmps6
 go_upto_region 3 with fail
 rw [<-HW2.out.1,<-HW2.out.2.1,<-HW2.out.2.2];clear HW2;go_wp2_with fail;refine (HPX.out _).mono ?_;rintro r w3 ⟨rfl,hw3⟩;rw [hw3];clear hw3 HPX w3;obtain ⟨EE,hEE⟩:∃ EE:Nat,EE=if k=25 then 3 else 2:=⟨_,rfl⟩;go_upto_if 54 with fail
 go_cut [8] from 55 (fun v wx=>v=.int .i64 (EE:Int)/\w2=wx)
 case first=>
  by_cases hk25:k=25
  .have hq:((k:Int) == 25)=true:=by rw [hk25];rfl
   rw [Ny hk25] at hEE;subst hEE;clear hk25;go_wp2_with fail;go_meet
   case rel=>exact ⟨rfl,rfl⟩
  .have hq:((k:Int) == 25)=false:=by rw [Nz];omega
   rw [Nr hk25] at hEE;subst hEE;clear hk25;go_wp2_with fail;go_meet
   case rel=>exact ⟨rfl,rfl⟩
 case rest=>
  obtain ⟨rfl,rfl⟩:=hcut;obtain ⟨P,pl,p1,p2,pz,pm⟩:=pt_at hk26;rw [<-hEE] at pm;clear hEE;obtain ⟨K1,B1,B2⟩:=H2.out;have c1:=B1.at_ k _ p1;have c2:=B2.at_ k _ p2;have HM:=yX P ⟨#[97]⟩ (by omega) (HNM.out w2 K1);rw [pm] at HM;replace HM:=hid HM;have hl2:=B2.lt;clear K1 B1 B2 pm p1 p2 pz;go_wp2_with fail;refine HM.out.mono ?_;rintro r w3 ⟨rfl,k3⟩;have c3:=(k3.cell (p:=⟨b2,k,none⟩) hl2 (by simp)).trans c2;have K3:=hid (H2.out.1.trans k3);clear c1 c2 hl2 HM k3 H2;have K4:=(Kp.alloc [] w3 (.cells scV.toArray 9)).trans ((Kp.alloc [] _ (.cells scW.toArray 3)).trans (Kp.alloc [] _ (.cells scX.toArray 24)));have A1:=((Bl.alloc w3 scV 9).aj (Kp.alloc [] _ (.cells scW.toArray 3)) (by simp)).aj (Kp.alloc [] _ (.cells scX.toArray 24)) (by simp);have A2:=(Bl.alloc (w3.alloc (.cells scV.toArray 9)) scW 3).aj (Kp.alloc [] _ (.cells scX.toArray 24)) (by simp);have A3:=Bl.alloc ((w3.alloc (.cells scV.toArray 9)).alloc (.cells scW.toArray 3)) scX 24
  obtain ⟨a1,ha1⟩:∃ b,b=w3.heap.size:=⟨_,rfl⟩;obtain ⟨a2,ha2⟩:∃ b,b=a1+1:=⟨_,rfl⟩;obtain ⟨a3,ha3⟩:∃ b,b=a2+1:=⟨_,rfl⟩;have z2:(w3.alloc (.cells scV.toArray 9)).heap.size=a2:=by rw [ha2,ha1];simp
  have z3:((w3.alloc (.cells scV.toArray 9)).alloc (.cells scW.toArray 3)).heap.size=a3:=by rw [ha3,ha2,ha1];simp
  obtain ⟨w6,hw6⟩:∃ w6,w6=((w3.alloc (.cells scV.toArray 9)).alloc (.cells scW.toArray 3)).alloc (.cells scX.toArray 24):=⟨_,rfl⟩;rw [<-hw6,<-ha1] at A1;rw [<-hw6,z2] at A2;rw [<-hw6,z3] at A3;rw [<-hw6] at K4;have HW6:=hid (And.intro hw6 (And.intro ha1 (And.intro ha2 ha3)));have H6:=hid (And.intro (K3.out.trans K4) (And.intro A1 (And.intro A2 A3)));clear hw6 ha1 ha2 ha3 z2 z3 A1 A2 A3 K4;go_upto_region 13 with fail
  rw [<-HW6.out.1,<-HW6.out.2.1,<-HW6.out.2.2.1,<-HW6.out.2.2.2];clear HW6 c3;go_wp2_with fail;refine (HPY.out _).mono ?_;rintro r w7 ⟨rfl,hw7⟩;rw [hw7];clear hw7 HPY w7;obtain ⟨C,pl2,E2,q1,q2,q3,qm⟩:=sc_at hm30;obtain ⟨K6,A1,A2,A3⟩:=H6.out;have c1:=A1.at_ m _ q1;have c2:=A2.at_ m _ q2;have c3:=A3.at_ m _ q3;have HC:=iq C (HNM.out w6 K6);rw [qm] at HC;replace HC:=hid HC;have l2:=A2.lt;have l3:=A3.lt;clear K6 A1 A2 A3 q1 q2 q3 qm;go_wp2_with fail;refine HC.out.mono ?_;rintro r w8 ⟨rfl,k8⟩;have d2:=(k8.cell (p:=⟨a2,m,none⟩) l2 (by simp)).trans c2;have d3:=(k8.cell (p:=⟨a3,m,none⟩) l3 (by simp)).trans c3;have K8:=hid (H6.out.1.trans k8);clear c1 c2 c3 l2 l3 HC k8 H6;have hmk:∀ w,(Instr.makeSlice 49 (.int .i64 1001) (.int .i64 1001)).run Tryz.prog w=.ok (.slice (some ⟨w.heap.size,0,none⟩) 1001 1001) (w.alloc (.cells (zb 1001) 5)):=fun w=>qF w 1001 (by omega);have hcv:=qQ w8 1001;have k9:=Kp.alloc [] w8 (.cells (zb 1001) 5)
  obtain ⟨LG,hLG⟩:∃ LG,LG=ba (nl 1001):=⟨_,rfl⟩;rw [<-hLG] at hcv;obtain ⟨w9,hw9⟩:∃ w9,w9=w8.alloc (.cells (zb 1001) 5):=⟨_,rfl⟩;have HW9:=hid hw9;have K9:Hid (Kp [] w w9):=hid (by rw [hw9];exact K8.out.trans k9);have hLz:LG.size=1001:=by rw [hLG,ax,qy]
  have HLG:=hid hLG;clear hLG hw9 k9;go_upto_region 18 with fail
  rw [<-HW9.out];have HM1:=yX ⟨#[97]⟩ LG (by decide) (HNM.out w9 K9.out);rw [show MH ⟨#[97]⟩ LG=.error (1,0) by unfold MH;rw [Ny (by omega)]] at HM1;replace HM1:=hid HM1;clear HW9 hmk hcv d2 d3;go_wp2_with fail;refine HM1.out.mono ?_;rintro r w10 ⟨rfl,k10⟩;obtain ⟨LE,hLE⟩:∃ LE,LE=LG.extract 0 101:=⟨_,rfl⟩;have hEx:=hLE.symm;have hEz:LE.size=101:=by rw [hLE,ByteArray.size_extract,hLz];omega
  have K10:=hid (K9.out.trans k10);have HM2:=yX LE ⟨#[97]⟩ (by omega) (HNM.out w10 K10.out);rw [show MH LE ⟨#[97]⟩=.error (1,0) by unfold MH;rw [Nr (by decide)];unfold gI;rw [Ny (by omega)]] at HM2;replace HM2:=hid HM2;clear HM1 k10 hLE;go_wp2_with fail;refine HM2.out.mono ?_;rintro r w11 ⟨rfl,k11⟩;have K11:=hid (K10.out.trans k11);have hmk:∀ w,(Instr.makeSlice 49 (.int .i64 2001) (.int .i64 2001)).run Tryz.prog w=.ok (.slice (some ⟨w.heap.size,0,none⟩) 2001 2001) (w.alloc (.cells (zb 2001) 5)):=fun w=>qF w 2001 (by omega);have hcv:=qQ w11 2001;have k12:=Kp.alloc [] w11 (.cells (zb 2001) 5);obtain ⟨L2,hL2⟩:∃ L2,L2=ba (nl 2001):=⟨_,rfl⟩;rw [<-hL2] at hcv;obtain ⟨w12,hw12⟩:∃ w12,w12=w11.alloc (.cells (zb 2001) 5):=⟨_,rfl⟩;have HW12:=hid hw12;have K12:Hid (Kp [] w w12):=hid (by rw [hw12];exact K11.out.trans k12);have hL2z:L2.size=2001:=by rw [hL2,ax,qy]
  have HC2:=iq L2 (HNM.out w12 K12.out);rw [show scrE L2=.error (1,0) by unfold scrE;rw [Ny (by omega)]] at HC2;replace HC2:=hid HC2;clear hL2 hw12 k12 k11 HM2 hEx hEz hL2z;go_wp2_with fail;rw [<-HW12.out];refine HC2.out.mono ?_;rintro r w13 ⟨rfl,k13⟩;have K13:=hid (K12.out.trans k13);clear HC2 HW12 hmk hcv k13 K12 K11 K10;obtain ⟨LX,hLX⟩:∃ LX,LX=ba (nl 1001++[120,10]):=⟨_,rfl⟩;have hap:LG++⟨#[120,10]⟩=LX:=by rw [HLG.out,hLX];exact jG _ [120,10]
  have hqa:¬ 9223372036854775807 < 1001+2:=by omega
  have K14:=(Kp.alloc [] w13 (.cells enV.toArray 9)).trans ((Kp.alloc [] _ (.cells (inV LX).toArray 9)).trans (Kp.alloc [] _ (.cells whV.toArray 24)));have A1:=((Bl.alloc w13 enV 9).aj (Kp.alloc [] _ (.cells (inV LX).toArray 9)) (by simp)).aj (Kp.alloc [] _ (.cells whV.toArray 24)) (by simp);have A2:=(Bl.alloc (w13.alloc (.cells enV.toArray 9)) (inV LX) 9).aj (Kp.alloc [] _ (.cells whV.toArray 24)) (by simp);have A3:=Bl.alloc ((w13.alloc (.cells enV.toArray 9)).alloc (.cells (inV LX).toArray 9)) whV 24;obtain ⟨g1,hg1⟩:∃ b,b=w13.heap.size:=⟨_,rfl⟩;obtain ⟨g2,hg2⟩:∃ b,b=g1+1:=⟨_,rfl⟩;obtain ⟨g3,hg3⟩:∃ b,b=g2+1:=⟨_,rfl⟩;have z2:(w13.alloc (.cells enV.toArray 9)).heap.size=g2:=by rw [hg2,hg1];simp
  have z3:((w13.alloc (.cells enV.toArray 9)).alloc (.cells (inV LX).toArray 9)).heap.size=g3:=by rw [hg3,hg2,hg1];simp
  obtain ⟨w16,hw16⟩:∃ w16,w16=((w13.alloc (.cells enV.toArray 9)).alloc (.cells (inV LX).toArray 9)).alloc (.cells whV.toArray 24):=⟨_,rfl⟩;rw [<-hw16,<-hg1] at A1;rw [<-hw16,z2] at A2;rw [<-hw16,z3] at A3;rw [<-hw16] at K14;have HW16:=hid (And.intro hw16 (And.intro hg1 (And.intro hg2 hg3)));have H16:=hid (And.intro (K13.out.trans K14) (And.intro A1 (And.intro A2 (And.intro A3 hLX))));clear hw16 hg1 hg2 hg3 z2 z3 A1 A2 A3 K14 hLX;go_upto_region 26 with fail
  rw [<-HW16.out.1,<-HW16.out.2.1,<-HW16.out.2.2.1,<-HW16.out.2.2.2];clear HW16 hap hqa;go_wp2_with fail;go_loopw [31,32,33,34,35,36,37] (fun v _ _ _ _ _ _ wr=>∃ j:Nat,j<=4/\v=.int .i64 j/\Hid (Kp [] w16 wr)) (fun v _ _ _ _ _ _ _=>5 - (intOf v).toNat)
  case atStart=>exact ⟨0,by omega,rfl,hid (Kp.refl _ _)⟩
  case round=>
   obtain ⟨j,hj,rfl,HKR⟩:=hrel;by_cases hj4:j < 4
   case pos=>
    obtain ⟨B,d,E,S,o,e1,e2,e3,eS,hd,f1,f2⟩:=en_at hj4;obtain ⟨z0,hz0⟩:∃ z0:Nat,z0=0:=⟨_,rfl⟩;rw [<-hz0] at f1 f2;have HZ0:=hid hz0;clear hz0;obtain ⟨K16,A1,A2,A3,hLX⟩:=H16.out;rw [hLX] at A2;have HCC:Hid (∀ wx,Kp [] w16 wx->wx.cell? ⟨g1,j,none⟩=some (.string B)/\wx.cell? ⟨g2,j,none⟩=some (.string (ba d))/\wx.cell? ⟨g3,j,none⟩=some (.int .i64 E)):=hid (fun wx kx=>⟨(A1.aj kx (by simp)).at_ j _ e1,(A2.aj kx (by simp)).at_ j _ e2,(A3.aj kx (by simp)).at_ j _ e3⟩);have HC:=iq B (HNM.out wr (K16.trans HKR.out));rw [eS] at HC;replace HC:=hid HC;have HES:=hid (And.intro eS (And.intro hd (And.intro f1 f2)));obtain ⟨c1,_,_⟩:=HCC.out wr HKR.out;clear K16 A1 A2 A3 hLX e1 e2 e3 eS hd f1 f2;go_wp2_with fail;refine HC.out.mono ?_;rintro r w17 ⟨sb,rfl,hg⟩;obtain ⟨lo,hi,σ,hP,k17⟩:=Gm hg HES.out.1 (HPW.out wr (H16.out.1.trans HKR.out));have K17:=hid (HKR.out.trans k17);have HP:=hid hP;have HST:=hid (yu hP (Kp.refl [] w17))
    clear HC hg hP k17 c1;go_wp2_with fail;refine HST.out.mono ?_;rintro r w18 ⟨eb,mb,db,s18,rfl,X18,k18,_⟩;obtain ⟨_,c2,_⟩:=HCC.out w18 (K17.out.trans k18);have HFD:=Im (d:=d) HP.out X18 (fun _=>by show 0+d.length+0<=_;have:=HES.out.2.1;omega);have f2:=HES.out.2.2.2;obtain ⟨F,hF⟩:∃ F,F=(fX S.ahead S.names.length S.ranges).feed S d:=⟨_,rfl⟩;have f1:=HES.out.2.2.1;rw [<-hF] at f1 f2 HFD;obtain ⟨F1,u1⟩:=F;dsimp only at f1 f2 HFD;subst f1;replace HFD:=hid HFD;have HF2:=hid f2;clear HST X18 k18 hF f2;go_wp2_with fail;refine HFD.out.mono ?_;rintro r w19 ⟨rfl,s19,X19,_⟩;have B20:=Bl.alloc w19 (fw o true E z0) 31;have k20:=Kp.alloc [] w19 (.cells (fw o true E z0).toArray 31);have fr20:=X19.far (Nw w19.heap.size);have X20:=X19.aj k20;obtain ⟨w20,hw20⟩:∃ w20,w20=w19.alloc (.cells (fw o true E z0).toArray 31):=⟨_,rfl⟩;obtain ⟨xr,hxr⟩:∃ xr,xr=w19.heap.size:=⟨_,rfl⟩;rw [<-hw20,<-hxr] at B20;rw [<-hw20] at X20
    rw [<-hxr] at fr20;have HW20:=hid (And.intro hw20 hxr);have HE:=end_t HP.out X20;rw [HF2.out] at HE;replace HE:=hid HE;have H20:=hid (And.intro B20 fr20);clear HFD X19 X20 k20 hw20 hxr B20 fr20 c2;go_wp2_with fail;rw [<-HW20.out.1,<-HW20.out.2];refine HE.out.mono ?_;rintro r w21 ⟨rfl,s21,X21,l21⟩;obtain ⟨B21,_⟩:=l21.bl H20.out.1 H20.out.2;have B22:=Bl.alloc w21 (fw [] true E z0) 31;have k22:=Kp.alloc [] w21 (.cells (fw [] true E z0).toArray 31);have R22:=B21.aj k22 (by simp);have K22:=hid (K17.out.trans (X21.m.r.kp.trans k22));obtain ⟨_,_,c3⟩:=HCC.out _ K22.out;have r1:=R22.at_ 1 _ rfl;have r2:=R22.at_ 2 _ rfl;have r3:(w21.alloc (.cells (fw [] true E z0).toArray 31)).cell? ⟨xr,3,none⟩=some (.int .i64 0):=by
     have:=R22.at_ 3 _ rfl;rw [HZ0.out] at this;rw [HZ0.out];exact this
    have s0:=B22.at_ 0 _ rfl;have s1:=B22.at_ 1 _ rfl;have s2:=B22.at_ 2 _ rfl;have hbn:(ba ([]:List UInt8)).toList=[]:=by first | rfl | decide | (unfold ByteArray.toList;rw [ByteArray.toList.loop];rfl)
    obtain ⟨w22,hw22⟩:∃ w22,w22=w21.alloc (.cells (fw [] true E z0).toArray 31):=⟨_,rfl⟩;obtain ⟨xs,hxs⟩:∃ xs,xs=w21.heap.size:=⟨_,rfl⟩;rw [<-hw22,<-hxs] at s0 s1 s2;rw [<-hw22] at r1 r2 r3 c3 K22;have HW22:=hid (And.intro hw22 hxs);obtain ⟨j1,hj1⟩:∃ j1:Nat,(j:Int)+1=(j1:Int):=⟨j+1,by omega⟩;have wj:=aa j1 (by omega);clear HE X21 l21 B21 B22 k22 R22 hw22 hxs;go_upto_region 37 with fail
    rw [<-HW22.out.1,<-HW22.out.2];go_quiet (fail);have kq:=hid (K22.out.trans (Kp.drewN [] _ nq));go_wp2_with fail;go_round
    case rel=>exact ⟨j1,by omega,by trivial,kq⟩
    case measure=>simp [intOf];omega
   case neg=>
    have K16:=hid (H16.out.1.trans HKR.out);clear H16 HKR;have hex:LG.extract 0 1000=ba (nl 1000):=by
     rw [HLG.out,eh,List.drop_zero];unfold nl;rw [List.take_replicate]
     rfl
    obtain ⟨Z,hZ⟩:∃ Z,Z=nl 1000:=⟨_,rfl⟩;have hZl:Z.length=1000:=by rw [hZ,qy]
    have HZN:Hid ((10:UInt8)∉Z):=hid (by rw [hZ];exact MD 1000);rw [<-hZ] at hex;clear hZ;go_wp2_with fail;go_loopw [38,39] (fun a v wx=>∃ q:Nat,q<=20/\a=.string (ba (mnB q))/\v=.int .i64 q/\wr=wx) (fun _ v _=>21 - (intOf v).toNat)
    case atStart=>exact ⟨0,by omega,rfl,rfl,rfl⟩
    case round=>
     obtain ⟨q,hq,rfl,rfl,rfl⟩:=hrel;by_cases hq20:q < 20
     case pos=>
      obtain ⟨q1,hq1⟩:∃ q1:Nat,(q:Int)+1=(q1:Int):=⟨q+1,by omega⟩;have wq:=aa q1 (by omega);have hln:=mn_len q;obtain ⟨M,hM⟩:∃ M,M=mnB q:=⟨_,rfl⟩;rw [<-hM] at hln ⊢;have zM:=ax M;have ap:ba M++⟨#[112,59]⟩=ba (M++[112,59]):=jG M [112,59];have nq:¬ 9223372036854775807 < M.length+2:=by omega
      have HM2:Hid (M++[112,59]=mnB (q+1)):=hid (by rw [Hf,hM]);clear hM;go_wp2_with fail;go_round
      case rel=>exact ⟨q+1,by omega,by rw [HM2.out],by rw [<-hq1];rfl,by trivial⟩
      case measure=>simp [intOf];omega
     case neg=>
      have e20:q=20:=by omega
      subst e20;rw [show ba (mnB 20)=xL from rfl];clear hq;go_wp2_with fail;go_loopw [40,41] (fun a v wx=>∃ q:Nat,q<=10/\a=.string (ba (wh (List.replicate q Z)))/\v=.int .i64 q/\wr=wx) (fun _ v _=>11 - (intOf v).toNat)
      case atStart=>exact ⟨0,by omega,rfl,rfl,rfl⟩
      case round=>
       obtain ⟨q,hq,rfl,rfl,rfl⟩:=hrel;by_cases hq10:q < 10
       case pos=>
        obtain ⟨q1,hq1⟩:∃ q1:Nat,(q:Int)+1=(q1:Int):=⟨q+1,by omega⟩;have wq:=aa q1 (by omega);have hln:=Ek Z q;rw [hZl] at hln;obtain ⟨M,hM⟩:∃ M,M=wh (List.replicate q Z):=⟨_,rfl⟩;rw [<-hM] at hln ⊢;have zM:=ax M;have zZ:=ax Z;have ap1:ba M++ba Z=ba (M++Z):=jG M Z;have zMZ:(ba (M++Z)).size=M.length+Z.length:=by rw [ax,Nu]
        have n1:¬ 9223372036854775807 < M.length+Z.length:=by omega
        have n2:¬ 9223372036854775807 < M.length+Z.length+1:=by omega
        have HM2:Hid (M++Z++[10]=wh (List.replicate (q+1) Z)):=hid (by rw [Eo,hM]);have h10:1000<=1001:=by omega
        clear hM;go_wp2_with fail;go_round
        case rel=>exact ⟨q+1,by omega,by rw [<-HM2.out];rfl,by rw [<-hq1];rfl,by trivial⟩
        case measure=>simp [intOf];omega
       case neg=>
        have e10:q=10:=by omega
        subst e10;have HC:=iq xL (HNM.out wr K16.out);rw [Iu] at HC;replace HC:=hid HC;have hil:=Ek Z 10;rw [hZl] at hil;obtain ⟨IN,hIN⟩:∃ IN,IN=wh (List.replicate 10 Z):=⟨_,rfl⟩;have HG:Hid (Gvs (dN xL) 10 (fun v=>v.status=0/\v.out.length=199199) { fX (dN xL).ahead (dN xL).names.length (dN xL).ranges with left:=IN }):=hid (by rw [hIN];exact ends4 HZN.out hZl);rw [<-hIN] at hil ⊢;clear hIN hex;go_wp2_with fail;refine HC.out.mono ?_;rintro r w17 ⟨sb,rfl,hg⟩;obtain ⟨lo,hi,σ,hP,k17⟩:=Gm hg Iu (HPW.out wr K16.out);have K17:=hid (K16.out.trans k17);have HP:=hid hP;have HST:=hid (yu hP (Kp.refl [] w17));clear HC hg hP k17;go_wp2_with fail;refine HST.out.mono ?_;rintro r w18 ⟨eb,mb,db,s18,rfl,X18,k18,_⟩;obtain ⟨vv,⟨v1,v2⟩,f1,_⟩:=xI (d:=IN) HP.out.ok (by omega) HG.out;have HFD:=Im (d:=IN) HP.out X18 (fun _=>by show 0+IN.length+0<=_;omega);rw [f1,v1] at HFD;dsimp only at HFD;obtain ⟨oo,hoo⟩:∃ oo,oo=vv.out:=⟨_,rfl⟩
        rw [<-hoo] at HFD v2;have hos:(ba oo).size=199199:=by rw [ax];exact v2
        replace HFD:=hid HFD;clear HST X18 k18 f1 v1 v2 hoo;go_wp2_with fail;refine HFD.out.mono ?_;rintro r w19 ⟨rfl,s19,X19,_⟩;have B20:=Bl.alloc w19 (fw oo true 10 0) 31;have k20:=Kp.alloc [] w19 (.cells (fw oo true 10 0).toArray 31);have K20:=hid (K17.out.trans (X19.m.r.kp.trans k20));have HWK:=hid (works_t (HNM.out _ K20.out) (HPW.out _ K20.out));have r0:=B20.at_ 0 _ rfl;have r1:=B20.at_ 1 _ rfl;have r2:(w19.alloc (.cells (fw oo true 10 0).toArray 31)).cell? ⟨w19.heap.size,2,none⟩=some (.int .i64 10):=B20.at_ 2 _ rfl;clear X19 B20 k20;go_wp2_with fail;refine HWK.out.mono ?_;rintro r w21 ⟨rfl,k21⟩;go_wp2_with fail;go_ret;exact ⟨rfl,K20.out.trans k21⟩
end
