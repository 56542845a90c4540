import Derived.Test.YtiahkfoojjpaaaaGreatDoorS48
import Derived.Test.YtiahkfoojjpaaaaGreatDoorS47
set_option maxRecDepth 100000
set_option maxHeartbeats 16000000
set_option linter.all false
namespace Go.Proofs.YtiahkfoojjpaaaaGreatDoor
open Go.RowKit
section
variable {w w0 wx:World}{lo hi sb b:Nat}{σ:Sst}{S:fN}{ca co:Nat}{cv:List Value}{c:aH}
theorem BH{α:Type}(f:α->List UInt8)(m:Nat):∀L:List α,(∀a∈L,(f a).length<=m)->(L.flatMap f).length<=m*L.length
 | [],_=>by simp
 | a::L,h=>by
  have h1:=h a (by simp);have h2:=BH f m L (fun b hb=>h b (by simp[hb]));rw[List.flatMap_cons,Qy,QF,Nat.mul_add];omega
theorem txt_le{nn rr:Nat}(hs:gE c)(hk:ig nn rr c):c.txt.length<=20000:=by
 have h1:=PL hs hk.nb hk.st;have h2:(ep c.fw).length<=5000:=by
  have hl:=hk.adr;have ha:∀a∈c.fw,a.txt.size<=2002:=fun a hm=>Lz (fun n e=>hk.nums n (by rw[<-e];exact hm)) (fun q e=>hs.ap q (by rw[<-e];exact hm))
  revert ha hl
  generalize c.fw=L;intro hl ha
  cases L with
  | nil=>simp[ep]
  | cons a L=>
   have h1:=ha a (by simp)
   have h2:=BH (fun b:eE=>44::b.txt.data.toList) 2003 L (fun b hb=>by
    have:=ha b (by simp[hb]);rw[QF,QK];show b.txt.size+1<=2003
    omega)
   rw[ep,Qy,QK];show a.txt.size+_<=5000;rw[QF] at hl;have:2003*L.length<=2003*1:=R9 _ (by omega);omega
 have e1:c.opr.data.toList.length=c.opr.size:=QK;unfold aH.txt;rcases Bool.eq_false_or_eq_true c.neg with h|h
 .rw[h,QB rfl];simp only[Qy,QF,Rk,e1];omega
 .rw[h,Qw (by simp)];simp only[Qy,QF,Rk,e1];omega
theorem stext_t(hP:Prg w lo hi sb σ S)(hs:∀c∈S.aD,gE c)(hw:∀c∈S.aD,c.what<256):Calls Tryz.prog 23 #[.pointer (some ⟨sb,0,none⟩)] w fun r w'=>r=.returned (.string (ba S.txt))/\Kp [] w w':=by
 obtain⟨A,cc,e,_,_⟩:=aZ hP.sc.o4;have c0:=hP.sc.c0;have c1:=hP.sc.c1;rw[hP.pg.qt] at c0;rw[e,hP.pg.len] at c1;have hl:=hP.ok.cl;have hsb:sb<w.heap.size:=World.block_lt_of_cell? _ _ c0
 have HC:Hid (∀(i:Nat) (c:aH),S.aD[i]? = some c->∃g,A=some ⟨g,0,none⟩/\∀(b:Nat) (l:List UInt8) (wx:World),Bd w b l wx->l.length<=90000000000->Calls Tryz.prog 37 #[.pointer (some ⟨g,i*23,none⟩),.pointer (some ⟨b,0,none⟩)] wx fun r w'=>r=.returned (.tuple #[])/\Bd w b (l++c.txt) w'):=hid (fun i c hc=>by
  obtain⟨g,cap,cv,hv,_,hT⟩:=hP.cmd hc;have hm:=QM hc;refine⟨g,?_,fun b l wx hb hll=>tell_c ⟨⟨cv,hT.is,hT.at_.at_⟩,hT.at_.lt,hT.fx⟩ (hs c hm) hP.pw hT.ok (hw c hm) hb hll⟩;rw[e] at hv
  injection hv)
 have HTL:Hid (∀(i:Nat) (c:aH),S.aD[i]? = some c->c.txt.length<=20000):=hid (fun i c hc=>by
  obtain⟨g,cap,cv,hv,_,hT⟩:=hP.cmd hc
  exact txt_le (hs c (QM hc)) hT.ok)
 have HTX:Hid (S.txt=(if S.quiet then [35,110,10] else [])++S.aD.flatMap aH.txt):=hid rfl;obtain⟨q,hq⟩:∃q,q=S.quiet:=⟨_,rfl⟩;rw[<-hq] at c0 HTX;obtain⟨n,hn⟩:∃n,n=S.aD.length:=⟨_,rfl⟩;rw[<-hn] at c1 hl;have HN:=hid hn;obtain⟨R,hR⟩:∃R,R=S.txt:=⟨_,rfl⟩;rw[<-hR] at HTX ⊢;have ka:=Kp.alloc [] w (.cells #[.pointer none,.slice none 0 0] 75);have HB0:Hid (Bd w w.heap.size [] (w.alloc (.cells #[.pointer none,.slice none 0 0] 75))):=hid ⟨bdr_new w,ka⟩;obtain⟨b,hb⟩:∃b,b=w.heap.size:=⟨_,rfl⟩;obtain⟨w1,hw1⟩:∃w1,w1=w.alloc (.cells #[.pointer none,.slice none 0 0] 75):=⟨_,rfl⟩;have HBW:=hid (And.intro hb hw1);rw[<-hb,<-hw1] at HB0;rw[<-hw1] at ka;have HK:Hid (∀wx,Kp [] w wx->wx.cell? ⟨sb,0,none⟩=some (.bool q)/\wx.cell? ⟨sb,0+1,none⟩=some (.slice A n cc)):=hid (fun wx kx=>⟨(kx.cell (p:=⟨sb,0,none⟩) hsb (by simp)).trans c0,(kx.cell (p:=⟨sb,0+1,none⟩) hsb (by simp)).trans c1⟩);obtain⟨d0,d1⟩:=HK.out w1 ka
 clear hP hs hw e c0 c1 hq hn hR hb hw1 hsb;go_enter Tryz.func23,Tryz.ntmps23
 go_upto_region 2 with fail
 rw[<-HBW.out.1,<-HBW.out.2];obtain⟨Q,hQ⟩:∃Q:List UInt8,Q=if q then [35,110,10] else []:=⟨_,rfl⟩;have hQl:Q.length<=3:=by rw[hQ];split<;>simp
 rw[<-hQ] at HTX;have hQ2:=hid hQ;go_upto_if 8 with fail
 go_cut [9] from 9 (fun _ wr=>Hid (Bd w b Q wr))
 case first=>
  cases q with
  | true=>
   have HS:=hid (HB0.out.str ⟨#[35,110,10]⟩ (by show 0+3<=_;omega));go_wp2_with fail;refine HS.out.mono ?_;rintro r w2 ⟨rfl,B2⟩;have HB2:=hid B2;clear B2;go_wp2_with fail;go_meet
   case rel=>exact hid (by rw[hQ2.out];exact HB2.out)
  | false=>
   go_wp2_with fail;go_meet
   case rel=>exact hid (by rw[hQ2.out];exact HB0.out)
 case rest=>
  have HBQ:=hid hcut;clear hcut HB0 d0 d1;obtain⟨d0,d1⟩:=HK.out wc HBQ.out.out.kp;go_wp2_with fail;go_loopw [15,4] (fun v _ wr=>∃k:Nat,k<=n/\v=.int .i64 k/\Hid (Bd w b (Q++(S.aD.take k).flatMap aH.txt) wr)) (fun v _ _=>n-(intOf v).toNat)
  case atStart=>exact⟨0,by omega,rfl,hid (by simpa using HBQ.out.out)⟩
  case round=>
   obtain⟨k,hk,rfl,HBK⟩:=hrel;by_cases hkn:k<n
   .obtain⟨c,hc⟩:∃c,S.aD[k]? = some c:=⟨_,QA (by rw[<-HN.out];exact hkn)⟩;obtain⟨g,rfl,hca⟩:=HC.out k c hc;have hPl:(Q++(S.aD.take k).flatMap aH.txt).length<=90000000000:=by
     have:=BH aH.txt 20000 (S.aD.take k) (fun a ha=>by
      obtain⟨i,hi⟩:=List.mem_iff_getElem?.1 (Sh ha)
      exact HTL.out i a hi)
     rw[Re] at this;have:20000*min k S.aD.length<=20000*2000:=R9 _ (by omega);rw[Qy];omega
    have HCA:=hid (hca b _ wr HBK.out hPl)
    have HSN:Hid (Q++(S.aD.take (k+1)).flatMap aH.txt=(Q++(S.aD.take k).flatMap aH.txt)++c.txt):=hid (by
     rw[Sc,hc,Option.toList_some,SP]
     simp)
    obtain⟨e0,e1⟩:=HK.out wr HBK.out.kp;obtain⟨k1,hk1⟩:∃k1:Nat,(k:Int)+1=(k1:Int):=⟨k+1,by omega⟩;have wk:=aa k1 (by omega);clear hca hc hPl;go_wp2_with fail;refine HCA.out.mono ?_;rintro r w2 ⟨rfl,B2⟩;have HB2:=hid B2;clear B2;go_wp2_with fail;go_round
    case rel=>
     have e1:k1=k+1:=by omega
     subst e1;exact⟨k+1,by omega,by trivial,hid (by rw[HSN.out];exact HB2.out)⟩
    case measure=>simp[intOf];omega
   .have hkk:k=n:=by omega
    subst hkk;have HF:Hid (Q++(S.aD.take k).flatMap aH.txt=R):=hid (by rw[HTX.out,HN.out,Rq]);rw[HF.out] at HBK;have HST:=hid (Le HBK.out.bd HBK.out.kp.size);go_wp2_with fail;refine HST.out.mono ?_;rintro r w2 ⟨rfl,bl⟩;have KF:=hid (uV HBK.out.kp bl);clear bl;go_wp2_with fail;go_ret;exact⟨rfl,KF.out⟩
theorem Pu(hP:Prg w lo hi sb σ S)(hs:∀c∈S.aD,gE c)(hw:∀c∈S.aD,c.what<256):Calls Tryz.prog 10 #[.pointer (some ⟨sb,0,none⟩)] w fun r w'=>r=.returned (.string (ba S.txt))/\Kp [] w w':=by
 have HA:=hid (stext_t hP hs hw);clear hP hs hw;go_enter Tryz.func10,Tryz.ntmps10
 go_wp2_with fail;refine HA.out.mono ?_;rintro r w1 ⟨rfl,k1⟩;go_wp2_with fail;go_ret;exact⟨rfl,k1⟩
end
section
variable {s t:ByteArray}{k k0 e:Nat}{r r' r2 rf:RdS}{c c0:aH}
theorem tD(hsz:s.size<=2000)(i j:Nat):(s.extract i j).size<=2000:=by
 rw[Q8];omega
theorem Aw(hsz:s.size<=2000){x:ByteArray}(q:dT s k=.ok (e,x)):x.size<=2000:=by
 grind [dT,tD]
theorem Ao.src(hsz:s.size<=2000){x:ByteArray}(hw:dT s k=.ok (e,x))(h:Ao r c0 x r2 c)(h0:gE c0):gE c:=by
 grind [Ao,gE,-> Aw]
theorem FlgR.src(hsz:s.size<=2000)(h:FlgR s r c0 r2 c)(h0:gE c0):gE c:=by
 grind [FlgR,gE,-> Ao.src]
theorem PJ(hsz:s.size<=2000){p:Ptn}(q:oL s k=.ok (e,p)):p.txt.size<=2000:=by
 obtain⟨_,_,_,h,_⟩:=gq hsz q;rw[h];exact tD hsz _ _
theorem Jh{L:List eE}{rn x:Nat}{nt:Bool}(hsz:s.size<=2000)(hk:k0<=s.size)(hL:∀q,eE.pat q∈L->q.txt.size<=2000)(q:aG s k0 r (dH L rn nt x)=.ok (e,r2,c)):gE c:=by
 have b:gE (dH L rn nt x):=⟨QG _,QG _,QG _,(fun q h=>by cases h),QG _,QG _,QG _,hL⟩;obtain⟨c0,hc0⟩:∃c0,c0=dH L rn nt x:=⟨_,rfl⟩;have hn0:c0.number=0:=by rw[hc0];rfl
 rw[<-hc0] at q b;clear hc0;unfold aG at q;split at q
 .split at q
  .cases q
  .injection q with q;injection q with _ q;injection q with _ q;rw[<-q];exact b
 split at q
 .split at q
  .cases q
  .injection q with q;injection q with _ q;injection q with _ q;rw[<-q];exact b
 split at q
 .cases hw:dT s k0 with
  | error z=>rw[hw] at q;cases q
  | ok z=>
   rw[hw] at q;dsimp only at q;split at q
   .cases q
   .injection q with q;injection q with _ q;injection q with _ q;rw[<-q];exact⟨Aw hsz hw,b.nm,b.tx,b.pt,b.nw,b.yf,b.yt,b.ap⟩
 split at q
 .split at q
  .cases hw:dT s (blk s k0) with
   | error z=>rw[hw] at q;cases q
   | ok z=>
    rw[hw] at q;injection q with q;injection q with _ q;injection q with _ q;rw[<-q];exact⟨Aw hsz hw,b.nm,b.tx,b.pt,b.nw,b.yf,b.yt,b.ap⟩
  .injection q with q;injection q with _ q;injection q with _ q;rw[<-q];exact b
 split at q
 .cases hw:fP s (s.size+1) (blk s k0) [] with
  | error z=>rw[hw] at q;cases q
  | ok z=>
   rw[hw] at q;injection q with q;injection q with _ q;injection q with _ q;rw[<-q];exact⟨b.lb,b.nm,tD hsz _ _,b.pt,b.nw,b.yf,b.yt,b.ap⟩
 split at q
 .cases hw:oL s k0 with
  | error z=>rw[hw] at q;cases q
  | ok z=>
   obtain⟨e1,p⟩:=z;rw[hw] at q;dsimp only at q
   cases hn:oe s p.G (s.size+1) e1 [] [] with
   | error y=>rw[hn] at q;cases q
   | ok y=>
    obtain⟨e2,pl,ho⟩:=y;rw[hn] at q;have n2:e2<=s.size:=by
     have:=aC (qd hn);omega
    refine(iV n2 ?_ q).src hsz ⟨b.lb,b.nm,b.tx,(fun q' h=>?_),tD hsz _ _,b.yf,b.yt,b.ap⟩
    .show c0.number<=_;omega
    .injection h with h;rw[<-h];exact PJ hsz hw
 split at q
 .split at q
  .cases hw:gG s (s.size+1) (k0+1) [] with
   | error z=>rw[hw] at q;cases q
   | ok z=>
    rw[hw] at q;dsimp only at q
    cases hn:toE s z.2.length (s.size+1) z.1 [] with
    | error y=>rw[hn] at q;cases q
    | ok y=>
     rw[hn] at q;injection q with q;injection q with _ q;injection q with _ q;rw[<-q];exact⟨b.lb,b.nm,b.tx,b.pt,b.nw,tD hsz _ _,tD hsz _ _,b.ap⟩
  .cases q
 split at q
 .cases hw:pZ s 0 255 (blk s k0) with
  | error z=>rw[hw] at q;cases q
  | ok z=>
   rw[hw] at q;injection q with q;injection q with _ q;injection q with _ q;rw[<-q];exact⟨b.lb,b.nm,b.tx,b.pt,b.nw,b.yf,b.yt,b.ap⟩
 split at q
 .obtain⟨x,w1,w2⟩:=xi q;exact w2.src hsz w1 b
 .injection q with q;injection q with _ q;injection q with _ q;rw[<-q];exact b
theorem Ph(hsz:s.size<=2000){A:eE}(q:nV s k=.ok (e,A)):∀p,A=.pat p->p.txt.size<=2000:=by
 grind [nV,-> PJ]
theorem Lw(hsz:s.size<=2000){L:List eE}(q:gH s k=.ok (e,L)):∀p,eE.pat p∈L->p.txt.size<=2000:=by
 grind [gH,-> Ph]
theorem OS(hsz:s.size<=2000)(hk:k<=s.size)(h:∀d∈r.aD,gE d)(q:tI s k r=.ok (e,r2)):∀d∈r2.aD,gE d:=by
 unfold tI at q
 cases hA:gH s k with
 | error z=>rw[hA] at q;cases q
 | ok z=>
  obtain⟨k1,L⟩:=z;rw[hA] at q;dsimp only at q;obtain⟨nt,hnt⟩:∃nt,nt=saw s (blk s k1) 33:=⟨_,rfl⟩;obtain⟨k3,hk3⟩:∃k3,k3=if saw s (blk s k1) 33=true then blk s (blk s k1+1) else blk s k1:=⟨_,rfl⟩;obtain⟨r1,hr1⟩:∃r1,r1=if L.length=2 then { r with ranges:=r.ranges+1} else r:=⟨_,rfl⟩;have hrc:r1.aD=r.aD:=by rw[hr1];split<;>rfl
  rw[<-hk3,<-hr1,<-hnt] at q;split at q
  .rename_i hlt;split at q
   .cases q
   split at q
   .cases q
   split at q
   .cases q
   rename_i e1 rr c hO;have ok:=jZ hsz (by omega) hO;have sc:=Jh hsz (by omega) (Lw hsz hA) hO;have hr2:r2={ rr with aD:=rr.aD++[c]}:=by
    split at q
    .injection q with q;injection q with _ q;exact q.symm
    .split at q
     .injection q with q;injection q with _ q;exact q.symm
     .cases q
   rw[hr2];intro d hd;rcases List.mem_append.1 hd with hd|hd
   .obtain⟨d0,h0,hd0⟩:=ok.cs d hd;rw[hrc] at h0;have b:=h d0 h0;rcases hd0 with rfl|rfl
    .exact b
    .exact⟨b.lb,b.nm,b.tx,b.pt,b.nw,b.yf,b.yt,b.ap⟩
   .rw[List.mem_singleton.1 hd];exact sc
  .cases q
theorem KC(hsz:s.size<=2000):∀{n k:Nat} {r:RdS},k<=s.size->tQ r k->(∀d∈r.aD,gE d)->eR s n k r=.ok rf->∀d∈rf.aD,gE d:=by
 intro n
 induction n with
 | zero=>grind [eR]
 | succ n ih=>
  intro k r hk hR h q;have hb:=jG (s:=s) (s.size+1) k;have hm:=hR.mono hb.1
  grind [eR,-> OS,-> qG]
theorem nN:∀{w:List (Nat×Nat)} {r r2:RdS},(∀d∈r.aD,gE d)->dE w r=.ok r2->∀d∈r2.aD,gE d
 | [],_,_,h,q=>by injection q with q;rw[<-q];exact h
 | (i,pl)::w,r,r2,h,q=>by
  unfold dE at q;have key:∀(c:aH) (g:Nat),r.aD[i]? = some c->∀d∈r.aD.set i { c with goal:=g},gE d:=fun c g hc d hd=>by
   rcases Rm hd with hd|hd
   .exact h d hd
   .have b:=h c (QM hc);rw[hd];exact⟨b.lb,b.nm,b.tx,b.pt,b.nw,b.yf,b.yt,b.ap⟩
  cases hc:r.aD[i]? with
  | none=>rw[hc] at q;cases q
  | some c=>
   rw[hc] at q;dsimp only at q;split at q
   .exact nN (key c _ hc) q
   .cases hf:r.labels.find? (c.label == ·.1) with
    | none=>rw[hf] at q;cases q
    | some z=>
     rw[hf] at q;exact nN (key c _ hc) q
theorem MF{S:fN}(q:lQ s=.ok S):(∀c∈S.aD,gE c)/\∀c∈S.aD,c.what<256:=by
 have ok:=Iu q;refine⟨?_,fun c hc=>by have:=oH (ok.ok c hc).wh;omega⟩;unfold lQ at q;split at q
 .cases q
 cases hC:eR s (s.size+1) 0 rd0 with
 | error z=>rw[hC] at q;cases q
 | ok rf=>
  rw[hC] at q;dsimp only at q;split at q
  .cases q
  cases hG:dE rf.wanted rf with
  | error z=>rw[hG] at q;cases q
  | ok rg=>
   rw[hG] at q;injection q with q;rw[<-q];exact nN (KC (by omega) (QG _) iQ (fun d hd=>by cases hd) hC) hG
end
