import Derived.Test.YtiahkfoojjpaaaaGreatDoorS23
import Derived.Test.YtiahkfoojjpaaaaGreatDoorS24
set_option maxRecDepth 100000
set_option maxHeartbeats 16000000
set_option linter.all false
namespace Go.Proofs.YtiahkfoojjpaaaaGreatDoor
open Go.RowKit
theorem saw_at{s:ByteArray}{k:Nat}{x:Nat}(h:saw s k x=true):∃hk:k<s.size,(s[k]).toNat=x:=by
 unfold saw at h;split at h
 .rename_i hk;refine⟨hk,?_⟩;simp at h;omega
 .cases h
theorem Hh(w:World):(zeroValue 161).run Tryz.prog w=.ok .nilFunc w:=by simp[go_sem]
def OpF(w0:World)(f b:Nat)(src:ByteArray)(k:Nat)(σ:Sst)(E pl:Nat):Prop:=
 ∀w cb cv,Sr w0 w b src k σ->Bl w cb cv->Cv cv->Cz cv->Sr.Far w0 b σ cb->Small σ 2000 ->
  Calls Tryz.prog f #[.pointer (some ⟨b,0,none⟩),.pointer (some ⟨cb,0,none⟩)] w fun r w'=>r=iG E pl/\Kp [] w0 w'
def LF(w0:World)(b:Nat)(src:ByteArray)(k:Nat)(σ:Sst)(n:Nat)(nt:Bool)(E pl:Nat):Prop:=
 ∀w cb cv A c,Sr w0 w b src k σ->Bl w cb cv->Cv cv->Cz cv->Sr.Far w0 b σ cb->Small σ 2000->cv[0]? = some (.slice A n c)->cv[2]? = some (.bool nt) ->
  Calls Tryz.prog 152 #[.pointer (some ⟨b,0,none⟩),.pointer (some ⟨cb,0,none⟩)] w fun r w'=>r=iG E pl/\Kp [] w0 w'
section
variable {w0:World}{b:Nat}{src:ByteArray}{k:Nat}{σ:Sst}{n:Nat}{nt:Bool}
theorem Mb(hk:k=src.size):LF w0 b src k σ n nt 4 k:=by
 intro w cb cv A c hs _ _ _ _ _ _ _;have he:((k:Int)==(src.size:Int))=true:=by simp[hk]
 clear hk;go_enter Tryz.func152,Tryz.ntmps152
 go_wp2_with fail;refine(du hs.cur he).mono ?_;rintro r w1 ⟨rfl,h1,m1⟩;go_wp2_with fail;refine(dF (hs.e.move m1 h1)).mono ?_;rintro r w2 ⟨rfl,m2⟩;go_wp2_with fail;exact⟨rfl,rfl,hs.tw (m1.trans m2)⟩
theorem what_op{E pl f i x:Nat}(hk:k<src.size)(hx:(src[k]).toNat=x)(ht:Instr.findNow (.int .u8) (.int .u8 x) (uj 0 opsL) 0=some (some (i,.func (.func f) #[] #[])))(hbare:(x=125\/x=58)->n=0/\nt=false)(ho:OpF w0 f b src (k+1) σ E pl)(hce:Enters f):LF w0 b src k σ n nt E pl:=by
 intro w cb cv A c hs hb hl hz hf hsl h0 h2;have hlt:=hs.cur.lt;have hne:cb≠b:=fun e=>hf.bk 0 (by rw[e];rfl);have he:((k:Int)==(src.size:Int))=false:=by simp;omega
 have c5:(⟨src.data⟩:ByteArray)[k].toNat=x:=hx;have HT:=hid ht;have HO:=hid ho;have HB:=hid hbare;clear ht ho hbare hx;go_enter Tryz.func152,Tryz.ntmps152
 go_wp2_with fail;refine(du hs.cur he).mono ?_;rintro r w1 ⟨rfl,h1,m1⟩;have s1:=hs.move m1 h1;have b1:=hb.aj m1.kp (by simpa using hne);have d0:=h1.c0;have d1:=h1.c1;have f3:=b1.free 3;have g3:=b1.at_ 3 _ (QA (show 3<cv.length by rw[hl.len];omega));go_upto_region 2 with fail
 go_cut [4] from 15 (fun _ wx=>wx=w1.drew.setCell ⟨cb,3,none⟩ (.int .u8 x))
 case first=>
  go_region
  all_goals
   go_wp2_with fail;go_meet
   case rel=>rfl
 case rest=>
 subst hcut;obtain⟨w2,hw2⟩:∃w2,w2=w1.drew.setCell ⟨cb,3,none⟩ (.int .u8 x):=⟨_,rfl⟩;rw[<-hw2];have k2:Kp [cb] w1 w2:=by rw[hw2];exact(Kp.drew _ _).trans (Kp.setCell _ _ (by simp))
 have s2:Sr w0 w2 b src k σ:=s1.other k2 (fun y hy=>by simp at hy;rw[hy];exact hf);have b2:Bl w2 cb (cv.set 3 (.int .u8 x)):=by rw[hw2];exact(b1.aj (Kp.drew [] _) (by simp)).set 3 _ (by rw[hl.len];omega)
 have l2:Cv (cv.set 3 (.int .u8 x)):=hl.set 3 rfl;have z2:Cz (cv.set 3 (.int .u8 x)):=hz.set3 _;obtain⟨cv2,hcv2⟩:∃cv2,cv2=cv.set 3 (Value.int .u8 x):=⟨_,rfl⟩;have q0:cv2[0]? = some (.slice A n c):=by rw[hcv2,QL (by omega)];exact h0
 have q2:cv2[2]? = some (.bool nt):=by rw[hcv2,QL (by omega)];exact h2
 have q3:cv2[3]? = some (.int .u8 x):=by rw[hcv2,QI (by rw[hl.len];omega)]
 rw[<-hcv2] at b2 l2 z2;have HCV:=hid hcv2;clear hcv2 hw2 k2 s1 b1 hb hs m1 h1 d0 d1 f3 g3 h0 h2 hl;have e0:=b2.at_ 0 _ q0;have e2:=b2.at_ 2 _ q2;have e3:=b2.at_ 3 _ q3;have c7:=s2.c.c7;have hlk:∀m,(Instr.lookup 122 (.map (some σ.ob)) (.int .u8 x) true).run Tryz.prog (w2.drewN m)=.ok (.tuple #[.func (.func f) #[] #[],.bool true]) (w2.drewN m):=fun m=>
  gS Tryz.underlying122 Tryz.underlying5 (((Kp.drewN [] w2 m).block _ (s2.r.bk.hi 1 _ rfl) (by simp)).trans s2.r.m7) HT.out
 go_wp2_with fail;go_quiet (fail);have s3:=s2.aj (Kp.drewN [] w2 nq);have b3:=b2.aj (Kp.drewN [] w2 nq) (by simp);have c1:=s2.cur.c1;have f1:=s2.cur.free 1;have hsm:=s2.cur.small;unfold Enters at hce;have s4:Sr w0 ((w2.drewN nq).setCell ⟨b,1,none⟩ (.int .i64 ((k:Int)+1))) b src (k+1) σ:=s3.move (Mv.step _ _ _) (s3.cur.step hk);have b4:Bl ((w2.drewN nq).setCell ⟨b,1,none⟩ (.int .i64 ((k:Int)+1))) cb cv2:=b3.aj (Kp.setCell (S:=[b]) _ _ (by simp)) (by simpa using hne);have S4:=hid s4;have B4:=hid b4;clear s3 b3 s4 b4;by_cases hx:x=125\/x=58
 .obtain⟨rfl,rfl⟩:=HB.out hx;rcases hx with hx|hx
  .have g1:((x:Int)==125)=true:=by rw[hx];rfl
   go_wp2_with fail;refine(HO.out _ cb cv2 S4.out B4.out l2 z2 hf hsl).mono ?_;rintro r w5 ⟨rfl,k5⟩;go_wp2_with fail;exact⟨rfl,rfl,k5⟩
  .have g1:((x:Int)==125)=false:=by rw[hx];rfl
   have g2:((x:Int)==58)=true:=by rw[hx];rfl
   go_wp2_with fail;refine(HO.out _ cb cv2 S4.out B4.out l2 z2 hf hsl).mono ?_;rintro r w5 ⟨rfl,k5⟩;go_wp2_with fail;exact⟨rfl,rfl,k5⟩
 .have g1:((x:Int)==125)=false:=by rw[Qz];omega
  have g2:((x:Int)==58)=false:=by rw[Qz];omega
  go_wp2_with fail;refine(HO.out _ cb cv2 S4.out B4.out l2 z2 hf hsl).mono ?_;rintro r w5 ⟨rfl,k5⟩;go_wp2_with fail;exact⟨rfl,rfl,k5⟩
theorem Hm{f i x:Nat}(hk:k<src.size)(hx:(src[k]).toNat=x)(ht:Instr.findNow (.int .u8) (.int .u8 x) (uj 0 opsL) 0=some (some (i,.func (.func f) #[] #[])))(hbare:x=125\/x=58)(hb2:nt=true\/0<n):LF w0 b src k σ n nt 4 k:=by
 intro w cb cv A c hs hb hl hz hf hsl h0 h2;have hlt:=hs.cur.lt;have hne:cb≠b:=fun e=>hf.bk 0 (by rw[e];rfl);have he:((k:Int)==(src.size:Int))=false:=by simp;omega
 have c5:(⟨src.data⟩:ByteArray)[k].toNat=x:=hx;have HT:=hid ht;have HB:=hid hbare;clear ht hbare hx;go_enter Tryz.func152,Tryz.ntmps152
 go_wp2_with fail;refine(du hs.cur he).mono ?_;rintro r w1 ⟨rfl,h1,m1⟩;have s1:=hs.move m1 h1;have b1:=hb.aj m1.kp (by simpa using hne);have d0:=h1.c0;have d1:=h1.c1;have f3:=b1.free 3;have g3:=b1.at_ 3 _ (QA (show 3<cv.length by rw[hl.len];omega));go_upto_region 2 with fail
 go_cut [4] from 15 (fun _ wx=>wx=w1.drew.setCell ⟨cb,3,none⟩ (.int .u8 x))
 case first=>
  go_region
  all_goals
   go_wp2_with fail;go_meet
   case rel=>rfl
 case rest=>
 subst hcut;obtain⟨w2,hw2⟩:∃w2,w2=w1.drew.setCell ⟨cb,3,none⟩ (.int .u8 x):=⟨_,rfl⟩;rw[<-hw2];have k2:Kp [cb] w1 w2:=by rw[hw2];exact(Kp.drew _ _).trans (Kp.setCell _ _ (by simp))
 have s2:Sr w0 w2 b src k σ:=s1.other k2 (fun y hy=>by simp at hy;rw[hy];exact hf);have b2:Bl w2 cb (cv.set 3 (.int .u8 x)):=by rw[hw2];exact(b1.aj (Kp.drew [] _) (by simp)).set 3 _ (by rw[hl.len];omega)
 have l2:Cv (cv.set 3 (.int .u8 x)):=hl.set 3 rfl;have z2:Cz (cv.set 3 (.int .u8 x)):=hz.set3 _;obtain⟨cv2,hcv2⟩:∃cv2,cv2=cv.set 3 (Value.int .u8 x):=⟨_,rfl⟩;have q0:cv2[0]? = some (.slice A n c):=by rw[hcv2,QL (by omega)];exact h0
 have q2:cv2[2]? = some (.bool nt):=by rw[hcv2,QL (by omega)];exact h2
 have q3:cv2[3]? = some (.int .u8 x):=by rw[hcv2,QI (by rw[hl.len];omega)]
 rw[<-hcv2] at b2 l2 z2;have HCV:=hid hcv2;clear hcv2 hw2 k2 s1 b1 hb hs m1 h1 d0 d1 f3 g3 h0 h2 hl;have e0:=b2.at_ 0 _ q0;have e2:=b2.at_ 2 _ q2;have e3:=b2.at_ 3 _ q3;have c7:=s2.c.c7;have hlk:∀m,(Instr.lookup 122 (.map (some σ.ob)) (.int .u8 x) true).run Tryz.prog (w2.drewN m)=.ok (.tuple #[.func (.func f) #[] #[],.bool true]) (w2.drewN m):=fun m=>
  gS Tryz.underlying122 Tryz.underlying5 (((Kp.drewN [] w2 m).block _ (s2.r.bk.hi 1 _ rfl) (by simp)).trans s2.r.m7) HT.out
 go_wp2_with fail;go_quiet (fail);have s3:=s2.aj (Kp.drewN [] w2 nq);have b3:=b2.aj (Kp.drewN [] w2 nq) (by simp);have c1:=s2.cur.c1;have f1:=s2.cur.free 1;have hsm:=s2.cur.small;have mq:Mv b w2 (w2.drewN nq):=Mv.drewN _ _ _;have HG:Hid (Calls Tryz.prog 131 #[.pointer (some ⟨b,0,none⟩)] (w2.drewN nq) fun e w'=>e=iG 4 k/\Mv b (w2.drewN nq) w'):=hid (dF s3.e);have HS3:=hid s3;clear s3 b3 c1 f1
 cases nt with
 | true=>
  rcases HB.out with hx|hx
  .have g1:((x:Int)==125)=true:=by rw[hx];rfl
   go_wp2_with fail;refine HG.out.mono ?_;rintro r w5 ⟨rfl,m5⟩;go_wp2_with fail;exact⟨rfl,rfl,HS3.out.tw m5⟩
  .have g1:((x:Int)==125)=false:=by rw[hx];rfl
   have g2:((x:Int)==58)=true:=by rw[hx];rfl
   go_wp2_with fail;refine HG.out.mono ?_;rintro r w5 ⟨rfl,m5⟩;go_wp2_with fail;exact⟨rfl,rfl,HS3.out.tw m5⟩
 | false=>
  have hn:0<n:=by
   rcases hb2 with q|q
   .cases q
   .exact q
  rcases HB.out with hx|hx
  .have g1:((x:Int)==125)=true:=by rw[hx];rfl
   go_wp2_with fail;refine HG.out.mono ?_;rintro r w5 ⟨rfl,m5⟩;go_wp2_with fail;exact⟨rfl,rfl,HS3.out.tw m5⟩
  .have g1:((x:Int)==125)=false:=by rw[hx];rfl
   have g2:((x:Int)==58)=true:=by rw[hx];rfl
   go_wp2_with fail;refine HG.out.mono ?_;rintro r w5 ⟨rfl,m5⟩;go_wp2_with fail;exact⟨rfl,rfl,HS3.out.tw m5⟩
theorem Hl{x:Nat}(hk:k<src.size)(hx:(src[k]).toNat=x)(ht:Instr.findNow (.int .u8) (.int .u8 x) (uj 0 opsL) 0=some none):LF w0 b src k σ n nt 4 k:=by
 intro w cb cv A c hs hb hl hz hf hsl h0 h2;have hlt:=hs.cur.lt;have hne:cb≠b:=fun e=>hf.bk 0 (by rw[e];rfl);have he:((k:Int)==(src.size:Int))=false:=by simp;omega
 have c5:(⟨src.data⟩:ByteArray)[k].toNat=x:=hx;have HT:=hid ht;clear ht hx;go_enter Tryz.func152,Tryz.ntmps152
 go_wp2_with fail;refine(du hs.cur he).mono ?_;rintro r w1 ⟨rfl,h1,m1⟩;have s1:=hs.move m1 h1;have b1:=hb.aj m1.kp (by simpa using hne);have d0:=h1.c0;have d1:=h1.c1;have f3:=b1.free 3;have g3:=b1.at_ 3 _ (QA (show 3<cv.length by rw[hl.len];omega));go_upto_region 2 with fail
 go_cut [4] from 15 (fun _ wx=>wx=w1.drew.setCell ⟨cb,3,none⟩ (.int .u8 x))
 case first=>
  go_region
  all_goals
   go_wp2_with fail;go_meet
   case rel=>rfl
 case rest=>
 subst hcut;obtain⟨w2,hw2⟩:∃w2,w2=w1.drew.setCell ⟨cb,3,none⟩ (.int .u8 x):=⟨_,rfl⟩;rw[<-hw2];have k2:Kp [cb] w1 w2:=by rw[hw2];exact(Kp.drew _ _).trans (Kp.setCell _ _ (by simp))
 have s2:Sr w0 w2 b src k σ:=s1.other k2 (fun y hy=>by simp at hy;rw[hy];exact hf);have b2:Bl w2 cb (cv.set 3 (.int .u8 x)):=by rw[hw2];exact(b1.aj (Kp.drew [] _) (by simp)).set 3 _ (by rw[hl.len];omega)
 have l2:Cv (cv.set 3 (.int .u8 x)):=hl.set 3 rfl;have z2:Cz (cv.set 3 (.int .u8 x)):=hz.set3 _;obtain⟨cv2,hcv2⟩:∃cv2,cv2=cv.set 3 (Value.int .u8 x):=⟨_,rfl⟩;have q0:cv2[0]? = some (.slice A n c):=by rw[hcv2,QL (by omega)];exact h0
 have q2:cv2[2]? = some (.bool nt):=by rw[hcv2,QL (by omega)];exact h2
 have q3:cv2[3]? = some (.int .u8 x):=by rw[hcv2,QI (by rw[hl.len];omega)]
 rw[<-hcv2] at b2 l2 z2;have HCV:=hid hcv2;clear hcv2 hw2 k2 s1 b1 hb hs m1 h1 d0 d1 f3 g3 h0 h2 hl;have e0:=b2.at_ 0 _ q0;have e2:=b2.at_ 2 _ q2;have e3:=b2.at_ 3 _ q3;have c7:=s2.c.c7;have hlk:∀m,(Instr.lookup 122 (.map (some σ.ob)) (.int .u8 x) true).run Tryz.prog (w2.drewN m)=.ok (.tuple #[.nilFunc,.bool false]) (w2.drewN m):=fun m=>
  rM Tryz.underlying122 Tryz.underlying5 (Hh _) (((Kp.drewN [] w2 m).block _ (s2.r.bk.hi 1 _ rfl) (by simp)).trans s2.r.m7) HT.out
 go_wp2_with fail;go_quiet (fail);have s3:=s2.aj (Kp.drewN [] w2 nq);have b3:=b2.aj (Kp.drewN [] w2 nq) (by simp);have c1:=s2.cur.c1;have f1:=s2.cur.free 1;have hsm:=s2.cur.small;have HS3:=hid s3;clear b3 c1 f1;go_wp2_with fail;refine(dF HS3.out.e).mono ?_;rintro r w5 ⟨rfl,m5⟩;go_wp2_with fail;exact⟨rfl,rfl,HS3.out.tw m5⟩
end
def CmdF(w0:World)(b:Nat)(src:ByteArray)(k:Nat)(P:Sst->Prop)(E pl:Nat):Prop:=
 ∀w σ,Sr w0 w b src k σ->σ.cs.length<=2000->σ.ranges<=2000->Small σ 2000->P σ->Calls Tryz.prog 105 #[.pointer (some ⟨b,0,none⟩)] w fun r w'=>r=iG E pl/\Kp [] w0 w'
theorem lD{w0:World}{b:Nat}{src:ByteArray}{k k1 k3 E pl:Nat}{nt:Bool}{P:Sst->Prop}{L:List Adr}(hw0:Nm w0)(hA:tV src k k1 L)(hN:(nt=false/\saw src (blk src k1) 33=false/\k3=blk src k1)\/(nt=true/\saw src (blk src k1) 33=true/\k3=blk src (blk src k1+1)))(ho:∀σ,P σ->∀r fs,LF w0 b src k3 { σ with ranges:=r,fs:=fs} L.length nt E pl):CmdF w0 b src k P E pl:=by
 intro w σ hs hn hrg hsl hP;have HO:=hid (ho σ hP);clear ho;have hlt:=hs.cur.lt;have HA:=hid hA;have HN:=hid hN;clear hA hN;go_enter Tryz.func105,Tryz.ntmps105
 go_wp2_with fail;refine(lK hs hw0 HA.out).mono ?_;rintro r w1 ⟨A,c,fs,rfl,av,fsub,s1,kp1⟩;have HAV:=hid av;have HFS:=hid fsub;clear av fsub;have HCV:=hid (xq A L.length c 0 false 0);go_upto_if 9 with(refine jO (w1:=w1) rfl 93 (.tmp 2) (.tmp 5) rfl (Gy (.slice none 0 0) 0 false 0) 93 (Gy (.slice A L.length c) 0 false 0) rfl rfl rfl Tryz.pI HCV.out.one ?_;intro w2 b2 k2;have e0:=b2.at_ 0 _ rfl)
 have s2:=s1.aj k2;have hne:w1.heap.size≠b:=by have:=s1.cur.lt;omega
 have far2:=s1.eh (QD w1.heap.size);obtain⟨cb,hcb⟩:∃cb,cb=w1.heap.size:=⟨_,rfl⟩;rw[<-hcb] at hne far2 b2 ⊢;clear hcb s1 k2 e0 kp1 hs HA;obtain⟨rn,hrn⟩:∃rn,rn=if L.length=2 then σ.ranges else 0:=⟨_,rfl⟩;obtain⟨σ1,hσ1⟩:∃σ1:Sst,σ1={ σ with ranges:=if L.length=2 then σ.ranges+1 else σ.ranges,fs:=fs}:=⟨_,rfl⟩;have HRN:=hid hrn;have HS1:=hid hσ1;have HSL:Hid (Small σ1 2000):=hid (by rw[hσ1];exact⟨hsl.ns,hsl.bs,hsl.gs⟩);clear hrn hσ1 hsl;go_cut [5] from 10 (fun _ wx=>Sr w0 wx b src k1 σ1/\Bl wx cb (Gy (.slice A L.length c) rn false 0))
 case first=>
  by_cases hL:L.length=2
  .have g1:((L.length:Int)==2)=true:=by rw[hL];rfl
   have c6:w2.cell? ⟨b,6,none⟩=some (.int .i64 σ.ranges):=s2.c.c6;have f6:=s2.cur.free 6;have e1:=b2.at_ 1 _ rfl;have f1:=b2.free 1;have wr:=aQ σ.ranges (σ.ranges+1) rfl (by omega);go_wp2_with fail;go_meet
   case rel=>
    have k3:Kp [cb] w2 (w2.setCell ⟨cb,1,none⟩ (.int .i64 σ.ranges)):=Kp.setCell _ _ (by simp);have s3:=(s2.other k3 (fun y hy=>by simp at hy;rw[hy];exact far2)).fL (σ.ranges+1);have b3:=(b2.set 1 (.int .i64 σ.ranges) (by show 1<23;omega)).aj (Kp.setCell (S:=[b]) (p:=⟨b,6,none⟩) _ (.int .i64 ((σ.ranges+1:Nat):Int)) (by simp)) (by simpa using hne);rw[HS1.out,HRN.out,QB hL,QB hL];exact⟨s3,b3⟩
  .have g1:((L.length:Int)==2)=false:=by rw[Qz];omega
   go_wp2_with fail;go_meet
   case rel=>
    rw[HS1.out,HRN.out,Qw hL,Qw hL];exact⟨s2,b2⟩
 case rest=>
 obtain⟨s3,b3⟩:=hcut;clear b2 s2 w2;have far3:Sr.Far w0 b σ1 cb:=by
  refine⟨far2.lo,fun i=>?_,fun f hf=>far2.fx f ?_⟩
  .rw[HS1.out];exact far2.bk i
  .rw[HS1.out] at hf;exact hf
 clear far2;obtain⟨k2,hk2⟩:∃k2,k2=blk src k1:=⟨_,rfl⟩;have HK2:=hid hk2;clear hk2;go_wp2_with fail;refine(dS s3.cur).mono ?_;rintro r w4 ⟨rfl,h4,m4⟩;rw[<-HK2.out] at h4;have s4:=s3.move m4 h4;have b4:=b3.aj m4.kp (by simpa using hne);clear s3 b3 m4 h4;go_upto_if 30 with(go_at_call 149;refine(df 33 s4.cur rfl).mono ?_;rintro r w5 ⟨rfl,h5,m5⟩)
 have s5:=s4.move m5 h5;have b5:=b4.aj m5.kp (by simpa using hne);clear s4 b4 m5 h5;go_cut [5] from 30 (fun _ wx=>Sr w0 wx b src k3 σ1/\Bl wx cb (Gy (.slice A L.length c) rn nt 0))
 case first=>
  rcases HN.out with⟨hnt,h33,hk3⟩|⟨hnt,h33,hk3⟩
  .subst hnt;rw[<-HK2.out] at h33 hk3;rw[h33] at s5 ⊢;go_wp2_with fail;go_meet
   case rel=>
    rw[hk3];exact⟨s5,b5⟩
  .subst hnt;rw[<-HK2.out] at h33 hk3;rw[h33] at s5 ⊢;have e2:=b5.at_ 2 _ rfl;have f2:=b5.free 2;have k6:Kp [cb] w5 (w5.setCell ⟨cb,2,none⟩ (.bool true)):=Kp.setCell _ _ (by simp);have s6:=s5.other k6 (fun y hy=>by simp at hy;rw[hy];exact far3);have b6:=b5.set 2 (.bool true) (by show 2<23;omega);go_wp2_with fail;refine(dS s6.cur).mono ?_;rintro r w7 ⟨rfl,h7,m7⟩;go_wp2_with fail;go_meet
   case rel=>
    rw[hk3];exact⟨s6.move m7 h7,b6.aj m7.kp (by simpa using hne)⟩
 case rest=>
 obtain⟨s6,b6⟩:=hcut;clear b5 s5 w5;go_wp2_with fail;refine(HO.out (if L.length=2 then σ.ranges+1 else σ.ranges) fs _ cb _ A c (HS1.out ▸ s6) b6 (xq _ _ _ _ _ _) rfl (HS1.out ▸ far3) (HS1.out ▸ HSL.out) rfl rfl).mono ?_;rintro r w7 ⟨rfl,k7⟩;go_wp2_with fail;exact⟨rfl,rfl,k7⟩
def CmdG(bad:Prop)(pl:Nat)(w0 w':World)(C:Prop)(r:Ending):Prop:=(bad/\r=iG 4 pl/\Kp [] w0 w')\/(¬bad/\r=.returned (.tuple #[])/\C)
theorem zK{w0 w:World}{b:Nat}{src:ByteArray}{k k1 k3 k5 e f i x:Nat}{nt:Bool}{σ:Sst}{L:List Adr}{R:Sst->List Value->Sst->List Value->Prop}(hs:Sr w0 w b src k σ)(hw0:Nm w0)(hA:tV src k k1 L)(hN:(nt=false/\saw src (blk src k1) 33=false/\k3=blk src k1)\/(nt=true/\saw src (blk src k1) 33=true/\k3=blk src (blk src k1+1)))(hk:k3<src.size)(hx:(src[k3]).toNat=x)(ht:Instr.findNow (.int .u8) (.int .u8 x) (uj 0 opsL) 0=some (some (i,.func (.func f) #[] #[])))(hbare:(x=125\/x=58)->L=[]/\nt=false)(ho:∀r fs,Ek w0 f b src (k3+1) e { σ with ranges:=r,fs:=fs} R)(hce:Enters f)(hR:∀σ cv σ' cv',R σ cv σ' cv'->cv'[3]? = cv[3]?/\σ'.cs.length=σ.cs.length)(hE:(x=123/\k5=e)\/(x≠123/\iD src (blk src e)=true/\k5=blk src e)\/(x≠123/\iD src (blk src e)=false))(hn:σ.cs.length<=2000)(hrg:σ.ranges<=2000)(hsl:Small σ 2000):Calls Tryz.prog 105 #[.pointer (some ⟨b,0,none⟩)] w fun r w'=>CmdG (x≠123/\iD src (blk src e)=false) (blk src e) w0 w' (Ct w0 w' b src k5 σ L nt x R) r:=by
 have hlt:=hs.cur.lt;have HA:=hid hA;have HN:=hid hN;have HT:=hid ht;have HB:=hid hbare;have HO:=hid ho;have HC:=hid hce;have HR:=hid hR;have HE:=hid hE;have HX:=hid hx;clear hA hN ht hbare ho hce hR hE hx;go_enter Tryz.func105,Tryz.ntmps105
 go_wp2_with fail;refine(lK hs hw0 HA.out).mono ?_;rintro r w1 ⟨A,c,fs,rfl,av,fsub,s1,kp1⟩;have HAV:=hid av;have HFS:=hid fsub;clear av fsub;have HCV:=hid (xq A L.length c 0 false 0);go_upto_if 9 with(refine jO (w1:=w1) rfl 93 (.tmp 2) (.tmp 5) rfl (Gy (.slice none 0 0) 0 false 0) 93 (Gy (.slice A L.length c) 0 false 0) rfl rfl rfl Tryz.pI HCV.out.one ?_;intro w2 b2 k2;have e0:=b2.at_ 0 _ rfl)
 have s2:=s1.aj k2;have hne:w1.heap.size≠b:=by have:=s1.cur.lt;omega
 have far2:=s1.eh (QD w1.heap.size);obtain⟨cb,hcb⟩:∃cb,cb=w1.heap.size:=⟨_,rfl⟩;rw[<-hcb] at hne far2 b2 ⊢;clear hcb s1 k2 e0 kp1 hs HA;obtain⟨rn,hrn⟩:∃rn,rn=if L.length=2 then σ.ranges else 0:=⟨_,rfl⟩;obtain⟨σ1,hσ1⟩:∃σ1:Sst,σ1={ σ with ranges:=if L.length=2 then σ.ranges+1 else σ.ranges,fs:=fs}:=⟨_,rfl⟩;have HRN:=hid hrn;have HS1:=hid hσ1;have HSL:Hid (Small σ1 2000):=hid (by rw[hσ1];exact⟨hsl.ns,hsl.bs,hsl.gs⟩);clear hrn hσ1 hsl;go_cut [5] from 10 (fun _ wx=>Sr w0 wx b src k1 σ1/\Bl wx cb (Gy (.slice A L.length c) rn false 0))
 case first=>
  by_cases hL:L.length=2
  .have g1:((L.length:Int)==2)=true:=by rw[hL];rfl
   have c6:w2.cell? ⟨b,6,none⟩=some (.int .i64 σ.ranges):=s2.c.c6;have f6:=s2.cur.free 6;have e1:=b2.at_ 1 _ rfl;have f1:=b2.free 1;have wr:=aQ σ.ranges (σ.ranges+1) rfl (by omega);go_wp2_with fail;go_meet
   case rel=>
    have k3:Kp [cb] w2 (w2.setCell ⟨cb,1,none⟩ (.int .i64 σ.ranges)):=Kp.setCell _ _ (by simp);have s3:=(s2.other k3 (fun y hy=>by simp at hy;rw[hy];exact far2)).fL (σ.ranges+1);have b3:=(b2.set 1 (.int .i64 σ.ranges) (by show 1<23;omega)).aj (Kp.setCell (S:=[b]) (p:=⟨b,6,none⟩) _ (.int .i64 ((σ.ranges+1:Nat):Int)) (by simp)) (by simpa using hne);rw[HS1.out,HRN.out,QB hL,QB hL];exact⟨s3,b3⟩
  .have g1:((L.length:Int)==2)=false:=by rw[Qz];omega
   go_wp2_with fail;go_meet
   case rel=>
    rw[HS1.out,HRN.out,Qw hL,Qw hL];exact⟨s2,b2⟩
 case rest=>
 obtain⟨s3,b3⟩:=hcut;clear b2 s2 w2;have far3:Sr.Far w0 b σ1 cb:=by
  refine⟨far2.lo,fun i=>?_,fun f hf=>far2.fx f ?_⟩
  .rw[HS1.out];exact far2.bk i
  .rw[HS1.out] at hf;exact hf
 clear far2;obtain⟨k2,hk2⟩:∃k2,k2=blk src k1:=⟨_,rfl⟩;have HK2:=hid hk2;clear hk2;go_wp2_with fail;refine(dS s3.cur).mono ?_;rintro r w4 ⟨rfl,h4,m4⟩;rw[<-HK2.out] at h4;have s4:=s3.move m4 h4;have b4:=b3.aj m4.kp (by simpa using hne);clear s3 b3 m4 h4;go_upto_if 30 with(go_at_call 149;refine(df 33 s4.cur rfl).mono ?_;rintro r w5 ⟨rfl,h5,m5⟩)
 have s5:=s4.move m5 h5;have b5:=b4.aj m5.kp (by simpa using hne);clear s4 b4 m5 h5;go_cut [5] from 30 (fun _ wx=>Sr w0 wx b src k3 σ1/\Bl wx cb (Gy (.slice A L.length c) rn nt 0))
 case first=>
  rcases HN.out with⟨hnt,h33,hk3⟩|⟨hnt,h33,hk3⟩
  .subst hnt;rw[<-HK2.out] at h33 hk3;rw[h33] at s5 ⊢;go_wp2_with fail;go_meet
   case rel=>
    rw[hk3];exact⟨s5,b5⟩
  .subst hnt;rw[<-HK2.out] at h33 hk3;rw[h33] at s5 ⊢;have e2:=b5.at_ 2 _ rfl;have f2:=b5.free 2;have k6:Kp [cb] w5 (w5.setCell ⟨cb,2,none⟩ (.bool true)):=Kp.setCell _ _ (by simp);have s6:=s5.other k6 (fun y hy=>by simp at hy;rw[hy];exact far3);have b6:=b5.set 2 (.bool true) (by show 2<23;omega);go_wp2_with fail;refine(dS s6.cur).mono ?_;rintro r w7 ⟨rfl,h7,m7⟩;go_wp2_with fail;go_meet
   case rel=>
    rw[hk3];exact⟨s6.move m7 h7,b6.aj m7.kp (by simpa using hne)⟩
 case rest=>
 obtain⟨s6,b6⟩:=hcut;clear b5 s5 w5;go_wp2_with fail;refine(what_v (nt:=nt) s6 b6 (xq _ _ _ _ _ _) rfl far3 HSL.out hk HX.out HT.out rfl rfl (fun h=>⟨by rw[(HB.out h).1];rfl,(HB.out h).2⟩) (HS1.out ▸ HO.out _ _) HC.out).mono ?_;rintro r w7 ⟨σ',cv,rfl,s7,b7,hcv,far7,hR⟩;have hr3:=(HR.out _ _ _ _ hR).1;have hrc:=(HR.out _ _ _ _ hR).2;have HRR:Hid (R σ1 (Gy (.slice A L.length c) rn nt x) σ' cv):=hid hR;have hc3:cv[3]? = some (.int .u8 x):=hr3;have hcl:σ'.cs.length=σ.cs.length:=hrc.trans (by rw[HS1.out]);clear hR hr3 hrc s6 b6;obtain⟨x0,x1,x2,x3,x4,x5,x6,x7,x8,x9,x10,x11,x12,x13,x14,x15,x16,x17,x18,x19,x20,x21,x22,hcve⟩:=eD hcv.len;obtain rfl:x3=.int .u8 x:=by rw[hcve] at hc3;injection hc3
 have HB7:=hid b7;have HS7:=hid s7;have c4:=s7.c.c4;have f4:=s7.cur.free 4;have e0:=b7.at_ 0 _ (by rw[hcve];rfl);have e1:=b7.at_ 1 _ (by rw[hcve];rfl);have e2:=b7.at_ 2 _ (by rw[hcve];rfl);have e3:=b7.at_ 3 _ (by rw[hcve];rfl);have e4:=b7.at_ 4 _ (by rw[hcve];rfl);have e5:=b7.at_ 5 _ (by rw[hcve];rfl);have e6:=b7.at_ 6 _ (by rw[hcve];rfl);have e7:=b7.at_ 7 _ (by rw[hcve];rfl);have e8:=b7.at_ 8 _ (by rw[hcve];rfl);have e9:=b7.at_ 9 _ (by rw[hcve];rfl);have e10:=b7.at_ 10 _ (by rw[hcve];rfl);have e11:=b7.at_ 11 _ (by rw[hcve];rfl);have e12:=b7.at_ 12 _ (by rw[hcve];rfl);have e13:=b7.at_ 13 _ (by rw[hcve];rfl);have e14:=b7.at_ 14 _ (by rw[hcve];rfl);have e15:=b7.at_ 15 _ (by rw[hcve];rfl);have e16:=b7.at_ 16 _ (by rw[hcve];rfl);have e17:=b7.at_ 17 _ (by rw[hcve];rfl);have e18:=b7.at_ 18 _ (by rw[hcve];rfl);have e19:=b7.at_ 19 _ (by rw[hcve];rfl);have e20:=b7.at_ 20 _ (by rw[hcve];rfl)
 have e21:=b7.at_ 21 _ (by rw[hcve];rfl);have e22:=b7.at_ 22 _ (by rw[hcve];rfl);obtain⟨i0,hi,hz0,hz1,hz2⟩:=info_parts Tryz.Bq;have HI:=hid (And.intro hi (And.intro hz0 (And.intro hz1 hz2)));have HCE:=hid hcve;have HCV2:=hid hcv;have hcl2:σ'.cs.length<=2000:=by omega
 have hlt7:=s7.cur.lt;have hw07:=s7.r.kp.size;clear hi hz0 hz1 hz2 hcve hcv hcl hc3 b7 s7 HN HT HB HO HC HR hn hrg;go_upto_region 9 with fail
 go_cut [5] from 36 (fun _ wx=>∃v',Sr w0 wx b src e { σ' with vc:=v',cs:=σ'.cs++[cv]}/\Bl wx cb cv)
 case first=>
  obtain⟨o,ho⟩:∃o:Obj,o=.cells [x0,x1,x2,.int .u8 x,x4,x5,x6,x7,x8,x9,x10,x11,x12,x13,x14,x15,x16,x17,x18,x19,x20,x21,x22].toArray 93:=⟨_,rfl⟩;have k8:Kp [] w7 (w7.drew.alloc o):=(Kp.drew _ _).trans (Kp.alloc _ _ _);have s8:=HS7.out.aj k8;have r7:w7.rangeAt cb 0 [x0,x1,x2,.int .u8 x,x4,x5,x6,x7,x8,x9,x10,x11,x12,x13,x14,x15,x16,x17,x18,x19,x20,x21,x22]:=by rw[<-HCE.out];exact HB7.out.range
  have r8:(w7.drew.alloc o).rangeAt cb 0 [x0,x1,x2,.int .u8 x,x4,x5,x6,x7,x8,x9,x10,x11,x12,x13,x14,x15,x16,x17,x18,x19,x20,x21,x22]:=by rw[<-HCE.out];exact(HB7.out.aj k8 (by simp)).range
  have OW:Hid ((w7.drew.alloc o).ownsRow w0.heap.size 93 23 σ'.vc σ'.cs.length σ'.cs.flatten):=hid s8.r.o4
  have NW:Hid (∀j u,[x0,x1,x2,.int .u8 x,x4,x5,x6,x7,x8,x9,x10,x11,x12,x13,x14,x15,x16,x17,x18,x19,x20,x21,x22][j]? = some u->(w7.drew.alloc o).cell? ((⟨w7.heap.size,0,none⟩:Addr).add j)=some u):=hid (fun j u hu=>by
   rw[Addr.add_mid,QH,ho]
   exact(Bl.alloc w7.drew _ 93).at_ j u hu)
  have ON:Hid (∀u∈[x0,x1,x2,.int .u8 x,x4,x5,x6,x7,x8,x9,x10,x11,x12,x13,x14,x15,x16,x17,x18,x19,x20,x21,x22],u.oneCell'=true):=hid (by rw[<-HCE.out];exact HCV2.out.one)
  have HG:Hid (∀w8,(w7.drew.alloc o).grownBy w8 σ'.vc.ownBlock->w8.cell? ⟨b,4,none⟩=some σ'.vc/\w8.frozen? ⟨b,4,none⟩=false/\w8.rangeAt cb 0 [x0,x1,x2,.int .u8 x,x4,x5,x6,x7,x8,x9,x10,x11,x12,x13,x14,x15,x16,x17,x18,x19,x20,x21,x22]):=hid (fun w8 hg=>by
   have hb2:w8.heap[b]? = (w7.drew.alloc o).heap[b]?:=hg.block b s8.cur.lt (fun e=>by have:=s8.r.bk.ne 0 4 b rfl (by first|exact e|exact e.symm);omega);have hb3:w8.heap[cb]? = (w7.drew.alloc o).heap[cb]?:=hg.block cb (Qx HB7.out.lt k8.size) (fun e=>far7.bk 4 (by first|exact e|exact e.symm))
   exact⟨(World.cell?_of_block hb2).trans s8.c.c4,(World.frozen?_of_block hb2).trans (s8.cur.free 4),fun j u hu=>(World.cell?_of_block hb3).trans (r8 j u hu)⟩)
  have hsz:w0.heap.size<=(w7.drew.alloc o).heap.size:=QC hw07 k8.size;have HSZ:=hid hsz;have HK8:=hid k8;have c48:(w7.drew.alloc o).cell? ⟨b,4,none⟩=some σ'.vc:=s8.c.c4;have hS:(fun w':World=>w'.cell? ⟨b,4,none⟩=some σ'.vc/\w'.rangeAt cb 0 [x0,x1,x2,.int .u8 x,x4,x5,x6,x7,x8,x9,x10,x11,x12,x13,x14,x15,x16,x17,x18,x19,x20,x21,x22]) w7.drew:=⟨c4,r7⟩;have hS8:(fun w':World=>w'.cell? ⟨b,4,none⟩=some σ'.vc/\w'.rangeAt cb 0 [x0,x1,x2,.int .u8 x,x4,x5,x6,x7,x8,x9,x10,x11,x12,x13,x14,x15,x16,x17,x18,x19,x20,x21,x22]) (w7.drew.alloc o):=⟨c48,r8⟩;have HS8:=hid hS8;rw[ho] at OW NW HG HSZ HK8 HS8;clear hsz k8 hS8 c48 s8 r7 r8;refine az (fun w'=>w'.cell? ⟨b,4,none⟩=some σ'.vc/\w'.rangeAt cb 0 [x0,x1,x2,.int .u8 x,x4,x5,x6,x7,x8,x9,x10,x11,x12,x13,x14,x15,x16,x17,x18,x19,x20,x21,x22]) 12 (by kernel_rfl) ?_;refine tk1 0 (v:=?_) rfl (by kernel_rfl) (fun _ _ _ h=>h) ⟨rfl,fun w hSw=>?_⟩ hS ?_;rotate_left;· ((try dsimp only at hSw);go_simp;(try with_reducible rfl))
  (try simp only[Qt,Qs,Qr,Act.put,Qq,Qu,Qv])
  refine tk1 1 (v:=?_) rfl (by kernel_rfl) (fun _ _ _ h=>h) ⟨rfl,fun w hSw=>?_⟩ hS ?_;rotate_left;· ((try dsimp only at hSw);go_simp;(try with_reducible rfl))
  (try simp only[Qt,Qs,Qr,Act.put,Qq,Qu,Qv])
  refine tk1 2 (v:=?_) rfl (by kernel_rfl) (fun _ _ _ h=>h) ⟨rfl,fun w hSw=>?_⟩ hS ?_;rotate_left;· ((try dsimp only at hSw);go_simp;(try with_reducible rfl))
  (try simp only[Qt,Qs,Qr,Act.put,Qq,Qu,Qv])
  refine tk1 3 (v:=?_) rfl (by kernel_rfl) (fun _ _ _ h=>h) ⟨rfl,fun w hSw=>?_⟩ hS ?_;rotate_left;· ((try dsimp only at hSw);go_simp;(try with_reducible rfl))
  (try simp only[Qt,Qs,Qr,Act.put,Qq,Qu,Qv])
  refine tk1 4 (v:=?_) rfl (by kernel_rfl) (fun _ _ _ h=>h) ⟨rfl,fun w hSw=>?_⟩ hS ?_;rotate_left;· ((try dsimp only at hSw);go_simp;(try with_reducible rfl))
  (try simp only[Qt,Qs,Qr,Act.put,Qq,Qu,Qv])
  refine tk1 5 (v:=?_) rfl (by kernel_rfl) (fun _ _ _ h=>h) ⟨rfl,fun w hSw=>?_⟩ hS ?_;rotate_left;· ((try dsimp only at hSw);go_simp;(try with_reducible rfl))
  (try simp only[Qt,Qs,Qr,Act.put,Qq,Qu,Qv])
  refine' aS (i:=6) (v:=_) rfl (by kernel_rfl) (by kernel_rfl) (by kernel_rfl) (by kernel_rfl) (fun _ _ _ h=>h) (yieldsIf_load_mid (by rfl) _ _ rfl _ _ rfl ([x0,x1,x2,.int .u8 x,x4,x5,x6,x7,x8,x9,x10,x11,x12,x13,x14,x15,x16,x17,x18,x19,x20,x21,x22]) _ ?hS6 ?hu6 ?hd6 ?hi6) hS ?r6
  case hS6=>(intro w hw;exact hw.2)
  case hu6=>exact Tryz.underlying93
  case hd6=>rfl
  case hi6=>exact Tryz.pI
  simp only[Qt,Qs,Qr,Act.put,Qq,Qu,Qv];refine ai (i:=7) (by kernel_rfl) rfl (fun K hK=>?_);refine Ms (by rfl) 56 93 (.tmp 42) (by rfl) [x0,x1,x2,.int .u8 x,x4,x5,x6,x7,x8,x9,x10,x11,x12,x13,x14,x15,x16,x17,x18,x19,x20,x21,x22] i0 _ 23 (by rfl) Tryz.underlying56 HI.out.1 HI.out.2.1 HI.out.2.2.1 rfl rfl (by omega) (by omega) ?_;refine hK.out _ _ (.inr HS8.out) ?_;clear hK K;simp only[Qt,Qs,Qr,Act.put,Qq,Qu,Qv];refine ai (i:=8) (by kernel_rfl) rfl (fun K hK=>?_);refine jR (by rfl) (.tmp 41) (.tmp 43) 56 (by rfl) w0.heap.size 93 i0 _ 23 296 Tryz.underlying56 HI.out.1 HI.out.2.1 HI.out.2.2.1 HI.out.2.2.2 rfl (by decide) σ'.vc σ'.cs.length σ'.cs.flatten (by rfl) OW.out ⟨w7.heap.size,0,none⟩ 1 1 [x0,x1,x2,.int .u8 x,x4,x5,x6,x7,x8,x9,x10,x11,x12,x13,x14,x15,x16,x17,x18,x19,x20,x21,x22] (by rfl) rfl NW.out ON.out (by unfold maxLen;omega) (by omega) HSZ.out (by omega) ?_;intro g cap w8 ho8 hg8 hor8
  have S8:(fun w':World=>w'.cell? ⟨b,4,none⟩=some σ'.vc/\w'.rangeAt cb 0 [x0,x1,x2,.int .u8 x,x4,x5,x6,x7,x8,x9,x10,x11,x12,x13,x14,x15,x16,x17,x18,x19,x20,x21,x22]) w8:=⟨(HG.out w8 hg8).1,(HG.out w8 hg8).2.2⟩;have c4':=(HG.out w8 hg8).1;have f4':=(HG.out w8 hg8).2.1;refine hK.out _ _ (.inr S8) ?_;clear hK K;simp only[Qt,Qs,Qr,Act.put,Qq,Qu,Qv];refine ai (i:=9) (by kernel_rfl) rfl (fun K hK=>?_);go_simp;refine hK.out _ _ (.inr S8) ?_;clear hK K;refine ai (i:=10) (by kernel_rfl) rfl (fun K hK=>?_);go_simp;refine hK.out _ _ (.inr S8) ?_;clear hK K;refine ai (i:=11) (by kernel_rfl) rfl (fun K hK=>?_);go_simp;refine hK.out _ _ (.inr S8) ?_;clear hK K;refine ai (i:=12) (by kernel_rfl) rfl (fun K hK=>?_);go_simp;refine hK.out _ _ (.inl rfl) ?_;clear hK K;refine ax (by kernel_rfl) ?_ _;go_wp2_with fail;go_meet
  case rel=>
   have ho8':w8.ownsRow w0.heap.size 93 23 (.slice (some ⟨g,0,none⟩) (σ'.cs.length+1) cap) (σ'.cs.length+1) (σ'.cs.flatten++cv):=by rw[HCE.out];exact ho8
   refine⟨_,HS7.out.pushCmd HK8.out ho8' hg8 hor8 HCV2.out,?_⟩;refine((HB7.out.aj HK8.out (by simp)).aj (aX (S:=σ'.vc.ownBlock.toList) hg8 (fun p hp=>by rw[hp];simp)) (fun hm=>?_)).aj (Kp.setCell (S:=[b]) _ _ (by simp)) (by simpa using hne);exact far7.bk 4 (show σ'.vc.ownBlock=some cb by simpa using hm)
 case rest=>
 obtain⟨v',s9,b9⟩:=hcut;have q3:=b9.at_ 3 (.int .u8 x) (by rw[HCE.out];rfl);rcases HE.out with⟨hx,hk5⟩|⟨hx,hme,hk5⟩|⟨hx,hme⟩
 .have g1:((x:Int)==123)=true:=by rw[hx];rfl
  go_wp2_with fail;go_end0;refine .inr ⟨fun q=>q.1 hx,rfl,A,c,fs,σ',cv,v',HAV.out,HFS.out,?_,?_⟩
  .rw[<-HS1.out,<-HRN.out];exact HRR.out
  .rw[hk5];exact s9
 .have g1:((x:Int)==123)=false:=by rw[Qz];omega
  go_wp2_with fail;refine(end_v s9.cur hme).mono ?_;rintro r w10 ⟨rfl,h10,m10⟩;go_wp2_with fail;go_end0;refine .inr ⟨(fun q=>by rw[hme] at q;cases q.2),rfl,A,c,fs,σ',cv,v',HAV.out,HFS.out,?_,?_⟩
  .rw[<-HS1.out,<-HRN.out];exact HRR.out
  .rw[hk5];exact s9.move m10 h10
 .have g1:((x:Int)==123)=false:=by rw[Qz];omega
  have HS9:=hid s9;obtain⟨pl,hpl⟩:∃pl,pl=blk src e:=⟨_,rfl⟩;have HEND:=hid (end_f s9.e hme);rw[<-hpl] at HEND;have HPL:=hid hpl;have HME:=hid hme;clear hpl hme s9;go_wp2_with fail;refine HEND.out.mono ?_;rintro r w10 ⟨rfl,m10⟩;go_wp2_with fail;exact⟨rfl,.inl ⟨⟨hx,HME.out⟩,by rw[HPL.out],HS9.out.tw m10⟩⟩
theorem zJ{w0 w:World}{b:Nat}{src:ByteArray}{k k1 k3 k5 e f i x:Nat}{nt:Bool}{σ:Sst}{L:List Adr}{R:Sst->List Value->Sst->List Value->Prop}(hs:Sr w0 w b src k σ)(hw0:Nm w0)(hA:tV src k k1 L)(hN:(nt=false/\saw src (blk src k1) 33=false/\k3=blk src k1)\/(nt=true/\saw src (blk src k1) 33=true/\k3=blk src (blk src k1+1)))(hk:k3<src.size)(hx:(src[k3]).toNat=x)(ht:Instr.findNow (.int .u8) (.int .u8 x) (uj 0 opsL) 0=some (some (i,.func (.func f) #[] #[])))(hbare:(x=125\/x=58)->L=[]/\nt=false)(ho:∀r fs,Ek w0 f b src (k3+1) e { σ with ranges:=r,fs:=fs} R)(hce:Enters f)(hR:∀σ cv σ' cv',R σ cv σ' cv'->cv'[3]? = cv[3]?/\σ'.cs.length=σ.cs.length)(hE:(x=123/\k5=e)\/(x≠123/\iD src (blk src e)=true/\k5=blk src e))(hn:σ.cs.length<=2000)(hrg:σ.ranges<=2000)(hsl:Small σ 2000):Calls Tryz.prog 105 #[.pointer (some ⟨b,0,none⟩)] w fun r w'=>r=.returned (.tuple #[])/\Ct w0 w' b src k5 σ L nt x R:=by
 refine(zK hs hw0 hA hN hk hx ht hbare ho hce hR (hE.imp_right .inl) hn hrg hsl).mono ?_;rintro r w' (⟨⟨q1,q2⟩,_⟩|⟨_,h⟩)
 .rcases hE with⟨e1,_⟩|⟨_,e2,_⟩
  .exact absurd e1 q1
  .rw[e2] at q2;cases q2
 .exact h
theorem Kv{w0:World}{b:Nat}{src:ByteArray}{k k1 k3 e f i x:Nat}{nt:Bool}{P:Sst->Prop}{L:List Adr}{R:Sst->List Value->Sst->List Value->Prop}(hw0:Nm w0)(hA:tV src k k1 L)(hN:(nt=false/\saw src (blk src k1) 33=false/\k3=blk src k1)\/(nt=true/\saw src (blk src k1) 33=true/\k3=blk src (blk src k1+1)))(hx:saw src k3 x=true)(ht:Instr.findNow (.int .u8) (.int .u8 x) (uj 0 opsL) 0=some (some (i,.func (.func f) #[] #[])))(hbare:(x=125\/x=58)->L=[]/\nt=false)(ho:∀σ,P σ->∀r fs,Ek w0 f b src (k3+1) e { σ with ranges:=r,fs:=fs} R)(hce:Enters f)(hR:∀σ cv σ' cv',R σ cv σ' cv'->cv'[3]? = cv[3]?/\σ'.cs.length=σ.cs.length)(hE:x≠123/\iD src (blk src e)=false):CmdF w0 b src k P 4 (blk src e):=by
 intro w σ hs hn hrg hsl hP;obtain⟨hk,hx⟩:=saw_at hx;refine(zK (k5:=0) hs hw0 hA hN hk hx ht hbare (ho σ hP) hce hR (.inr (.inr hE)) hn hrg hsl).mono ?_;rintro r w' (⟨_,h⟩|⟨h,_⟩)
 .exact h
 .exact absurd hE h
theorem Kw{w0:World}{b:Nat}{src:ByteArray}{k E pl:Nat}{P:Sst->Prop}(h:∀w σ,Sr w0 w b src k σ->Calls Tryz.prog 151 #[.pointer (some ⟨b,0,none⟩)] w fun r w'=>r=iG E pl/\Kp [] w0 w'):CmdF w0 b src k P E pl:=by
 intro w σ hs _ _ _ _;have H:=hid (h w σ hs);clear h;go_enter Tryz.func105,Tryz.ntmps105
 go_wp2_with fail;refine H.out.mono ?_;rintro r w1 ⟨rfl,k1⟩;go_wp2_with fail;exact⟨rfl,rfl,k1⟩
