/- What the claim needs of: HY. -/
import Derived.Test.YtiahkfoojjpaaaaGreatDoorW49
import Derived.Test.YtiahkfoojjpaaaaGreatDoorW50
import Derived.Test.YtiahkfoojjpaaaaGreatDoorW26
set_option maxRecDepth 100000
set_option maxHeartbeats 16000000
set_option linter.unusedVariables false
set_option linter.unusedSimpArgs false
namespace Go.Proofs.YtiahkfoojjpaaaaGreatDoor
open Go.RowKit
section
variable {u:Ust} {S:eI} {d P O:List UInt8}
structure Prm (S:eI) (u0 u:Ust) (P O:List UInt8):Prop where
 pm:Pmt S u
 bt:Btc S u
 lf:u.over=false->u.left.length+u.number<=P.length
 at_:∀ d:List UInt8,P.length+d.length<=100000->u0.feed S (P++d)=((u.feed S d).1.pre O,(u.feed S d).2)
 ol:O.length<=200000
theorem prm0 (hP:eS S):Prm S (nF S.ahead S.names.length S.ranges) (nF S.ahead S.names.length S.ranges) [] []:=
 ⟨pmt0 hP,Jv hP _,fun _=>Og _,fun _ _=>rfl,Og _⟩
theorem Prm.bd {u0:Ust} (h:Prm S u0 u P O) (hp:P.length+d.length<=100000):u.over=false->u.left.length+d.length+u.number<=281474976710656:=fun q=>by
 have:=h.lf q;omega
theorem Prm.next {u0:Ust} (hP:eS S) (hB:Btc S u0) (h0:u0.left.length+u0.number=0) (h:Prm S u0 u P O) (hp:P.length+d.length<=100000) (hn:Nl d):Prm S u0 (u.feed S d).2 (P++d) (O++(u.feed S d).1.out):=by
 have hb:=h.bd hp;refine ⟨h.pm.feed hP hn hb,(I0 hP h.bt hb).1,fun q=>?_,fun e he=>?_,?_⟩
 .obtain ⟨_,_,f2⟩:=ub (d1:=d) (d2:=[]) hP h.pm.fd (fun q=>by have:=hb q;rw [Pa];omega);have q2:=f2 q;have ho:u.over=false:=by
   cases hv:u.over with
   | false=>rfl
   | true=>
    have:=(Hs (S:=S) (d:=d) hv h.pm.ot).2;rw [q] at this
    cases this
  have:=h.lf ho;rw [N9];omega
 .rw [N9] at he;rw [Om,h.at_ (d++e) (by rw [N9];omega)];obtain ⟨e1,_,_⟩:=ub (d1:=d) (d2:=e) hP h.pm.fd (fun q=>by have:=h.lf q;omega);rw [e1];unfold Ust.Rep.pre;dsimp only;rw [Om]
 .have e:=h.at_ d hp;have q:=(I0 (d:=P++d) hP hB (fun _=>by rw [N9];omega)).2;rw [e] at q;exact q
theorem Jc {l:List UInt8} (h:(10:UInt8)∉l):cutL (l++[10])=(l,some []):=by
 induction l with
 | nil=>rfl
 | cons c l ih=>
  rw [OU,cutL,N7 (fun e=>h (by rw [e];exact List.mem_cons_self)),ih (fun q=>h (Pk _ q))]
theorem Ki {l:List UInt8} (h:nc l):Stk (l++[10]):=by
 have e:=Jc h.no10;exact ⟨by rw [e];have:=h.1;show l.length<=1000;omega,by rw [e];rfl⟩
theorem stk_x:Stk [120]:=⟨by decide,by decide⟩
end
section
variable {w0 w w' w2 wx:World} {mb sb db lo hi eb:Nat} {s s':Mst} {u:Ust} {σ:Sst} {S:eI}
theorem Lns.capF {lo:Nat} {w:World} {A:Option Addr} {n c:Nat} {ls:List (List UInt8)} (h:Lns lo w (.slice A n c) ls):ls.length<=c:=by
 rcases h.own.2 with ⟨e,e2⟩ | ⟨g,cap,cur,e,q2,q3,q4,q5,q6,q7⟩
 .omega
 .injection e with e1 e2 e3;omega
theorem KV (hP:Prg w0 lo hi sb σ S) (kx:Kp [] w0 wx) :
  Calls Tryz.prog 11 #[.pointer (some ⟨sb,0,none⟩)] wx fun r w'=>r=.returned (.bool S.ahead)/\w'=wx:=by
 have HA:=hid (JI hP kx);clear hP kx;go_enter Tryz.func11,Tryz.ntmps11
 go_wp2_with fail;refine HA.out.mono ?_;rintro r w1 ⟨rfl,rfl⟩;go_wp2_with fail;go_ret;exact ⟨rfl,rfl⟩
theorem DQ (src:ByteArray) (A:Option Addr) (n c:Nat) (z:Nat->Int) (w:World) (hn:n < 9223372036854775808) (N:rF w A n z) (hw:Nm w) (hpw:Pow w) :
  Calls Tryz.prog 5 #[.string src,.slice A n c] w fun e w'=>e=.returned (.bool true)/\Kp [] w w':=by
 have HW:=hid (works_t hw hpw);have HC:Hid (∀ w1,Kp [] w w1->Calls Tryz.prog 9 #[.string src] w1 (CompO w1 (scrE src))):=hid (fun w1 k1=>yo src (hw.aj k1 (by simp)));have HPW:Hid (∀ w1,Kp [] w w1->Pow w1):=hid (fun w1 k1=>hpw.aj k1);have HN:=hid N;clear hw hpw N;go_enter Tryz.func5,Tryz.ntmps5
 go_wp2_with fail;refine HW.out.mono ?_;rintro r w1 ⟨rfl,k1⟩;clear HW
 cases hS:scrE src with
 | error q=>
  obtain ⟨E,k⟩:=q;have hE:=Bw hS;have hq:((E:Int) == 0)=false:=by rw [Oe];omega
  have H:=HC.out w1 k1;rw [hS] at H;replace H:=hid H;clear HC hS;go_wp2_with fail;refine H.out.mono ?_;rintro r w2 ⟨rfl,k2⟩;go_wp2_with fail;go_ret;exact ⟨rfl,k1.trans k2⟩
 | ok S=>
  have H:=HC.out w1 k1;rw [hS] at H;replace H:=hid H;have HSS:=hid hS;clear HC hS;go_wp2_with fail;refine H.out.mono ?_;rintro r w2 ⟨sb,rfl,hg⟩;obtain ⟨lo,hi,σ,hP,k2⟩:=Ng hg HSS.out (HPW.out w1 k1);have HLN:=hid (Ix A n c z w2 hn (HN.out.aj (k1.trans k2)));have HP0:=hid hP;have K2:=hid (k1.trans k2);clear H hg hP k1 k2 HPW HN HSS;go_wp2_with fail;refine HLN.out.mono ?_;rintro e w3 ⟨v,ls,rfl,L3,hl1,hl13,k3⟩;obtain ⟨A1,c1,ev,hcell⟩:=L3.form;subst ev;obtain ⟨g,rfl,_⟩:=hcell 0 _ (Ob (by omega));have hcap:=L3.capF;have HP:=hid (HP0.out.aj k3);have HST:=hid (yU HP.out (Kp.refl [] w3));have HLO:=hid L3.ok
  have HCL:Hid (∀ j l,ls[j]? = some l->w3.cell? ⟨g,j,none⟩=some (.string (ba l))):=hid (fun j l hj=>by
   obtain ⟨g',e,q⟩:=hcell j l hj;injection e with e;injection e with e;subst e
   exact q)
  have K3:=hid (K2.out.trans k3);clear HLN HP0 L3 hcell k3 K2;go_wp2_with fail;refine HST.out.mono ?_;rintro r w4 ⟨ex,mx,dx,sx,rfl,X4,k4,_⟩;obtain ⟨u0,hu0⟩:∃ u0,u0=nF S.ahead S.names.length S.ranges:=⟨_,rfl⟩;have HU0:Hid (Btc S u0/\u0.left.length+u0.number=0):=hid (by rw [hu0];exact ⟨Jv HP.out.ok _,rfl⟩);have HPR:Hid (Prm S u0 u0 [] []):=hid (by rw [hu0];exact prm0 HP.out.ok);rw [<-hu0] at X4;have HX4:=hid X4;have HSY:Hid (∀ wx,Kp [] w3 wx->Calls Tryz.prog 12 #[.pointer (some ⟨sb,0,none⟩)] wx fun r w'=>∃ eb mb db s,r=.returned (.pointer (some ⟨eb,0,none⟩))/\Ed w3 w' eb mb sb db S s u0/\Kp [] wx w'/\∀ p,Ed.blk eb mb db s p->wx.heap.size<=p):=hid (fun wx kx=>by rw [hu0];exact yU HP.out kx);have HAH:Hid (∀ wx,Kp [] w3 wx->Calls Tryz.prog 11 #[.pointer (some ⟨sb,0,none⟩)] wx fun r w'=>r=.returned (.bool S.ahead)/\w'=wx):=hid (fun wx kx=>KV HP.out kx);obtain ⟨ah,hah⟩:∃ ah,ah=S.ahead:=⟨_,rfl⟩;rw [<-hah] at HAH
  have HAA:=hid hah;clear HST X4 k4 hu0 hah;go_wp2_with fail;go_loopw [11,12,13,14,15,16,17,18] (fun o i _ _ _ _ _ _ wr=>∃ (k:Nat) (O:List UInt8) (sx1:Mst) (ux:Ust),k<=ls.length/\o=.string (ba O)/\i=.int .i64 k/\Hid (Prm S u0 ux (wh (ls.take k)) O)/\Hid (Ed w3 wr ex mx sb dx S sx1 ux)) (fun _ i _ _ _ _ _ _ _=>14 - (intOf i).toNat)
  case atStart=>exact ⟨0,[],sx,u0,by omega,rfl,rfl,HPR,HX4⟩
  case round=>
   obtain ⟨k,O,sx1,ux,hk,rfl,rfl,HPR,HX⟩:=hrel;by_cases hkn:k < ls.length
   case neg=>
    go_wp2_with fail;go_ret;exact ⟨rfl,K3.out.trans HX.out.m.r.kp⟩
   case pos=>
    obtain ⟨l,hl⟩:∃ l,ls[k]? = some l:=⟨_,Ob hkn⟩;have hlo:=HLO.out l (Oo hl);have hll:=hlo.1;have hwl:(wh (ls.take k)).length<=1404:=by
     have:=Fw (ls.take k) (fun l hl=>HLO.out l (Pd hl));rw [OB] at this;omega
    have hbd:(wh (ls.take k)).length+(l++[10]).length<=100000:=by rw [N9,Oq];omega
    have kX:=HX.out.m.r.kp;have hc:=(kX.cell (p:=⟨g,k,none⟩) (World.block_lt_of_cell? _ _ (HCL.out k l hl)) (by simp)).trans (HCL.out k l hl);have ap1:ba l++⟨#[10]⟩=ba (l++[10]):=gu l [10];have zl:=aw l;have q1:¬ 9223372036854775807 < l.length+1:=by omega
    have HFX:=hid (CN (d:=l++[10]) HP.out HX.out (HPR.out.bd hbd));have HNX:=hid (HPR.out.next HP.out.ok HU0.out.1 HU0.out.2 hbd (.inr ⟨l,rfl⟩));have HTK:Hid (wh (ls.take (k+1))=wh (ls.take k)++(l++[10])):=hid (by rw [PE,hl,Option.toList_some];simp [wh]);have HAT:=hid (HPR.out.at_ (l++[10]) hbd)
    have HEN:Hid (ah=false->((ux.feed S (l++[10])).2.end_ S).1=⟨[],true,(ux.feed S (l++[10])).1.err,(ux.feed S (l++[10])).1.status⟩):=hid (fun q=>by
     rw [HNX.out.pm.ends (by rw [<-HAA.out];exact q)]
     rfl)
    have HSM:Hid (ah=true->(u0.feed S (wh (ls.take k)++[120])).1.out=O++(ux.feed S (l++[10])).1.out):=hid (fun q=>by
     obtain ⟨X,hX⟩:=HPR.out.pm.same HP.out.ok (by rw [<-HAA.out];exact q);rw [HPR.out.at_ [120] (by rw [Oq];omega),hX _ (Ki hlo) (by simp) (HPR.out.bd hbd)];show O++(ux.feed S [120]).1.out=_
     rw [hX _ stk_x (by simp) (HPR.out.bd (by rw [Oq];omega))])
    have HOL:=HNX.out.ol;obtain ⟨F,hF⟩:∃ F,F=ux.feed S (l++[10]):=⟨_,rfl⟩;rw [<-hF] at HFX HNX HAT HEN HSM HOL;obtain ⟨⟨ro,rv,re,rs⟩,u9⟩:=F;dsimp only at HFX HNX HEN HSM HOL;have HLK:=hid hl;clear hl hF hlo kX;go_wp2_with fail;refine HFX.out.mono ?_;rintro r w5 ⟨rfl,sx5,X5,l5⟩;have B5:=Bl.alloc w5 (fJ ro rv re rs) 31;have k5:=Kp.alloc [] w5 (.cells (fJ ro rv re rs).toArray 31);have X6:=X5.aj k5;obtain ⟨w6,hw6⟩:∃ w6,w6=w5.alloc (.cells (fJ ro rv re rs).toArray 31):=⟨_,rfl⟩;obtain ⟨xr,hxr⟩:∃ xr,xr=w5.heap.size:=⟨_,rfl⟩;have HW6:=hid hw6;have HXR:=hid hxr;rw [<-hw6,<-hxr] at B5;rw [<-hw6] at X6;have r0:=B5.at_ 0 _ rfl;have hsz2:¬ 9223372036854775807 < (ba O).size+(ba ro).size:=by
     rw [aw,aw];rw [N9] at HOL;omega
    have K6:=X6.m.r.kp;have hlx:∀ p,Ed.blk ex mx dx sx5 p->p < w6.heap.size:=fun p hp=>X6.lt hp;have hlr:xr < w6.heap.size:=B5.lt;have HX6:=hid (And.intro X6 (And.intro B5 (And.intro hlx hlr)));have ap2:ba O++ba ro=ba (O++ro):=gu _ _;have HSY6:=hid (HSY.out w6 K6);obtain ⟨P,hP⟩:∃ P,P=wh (ls.take k):=⟨_,rfl⟩;obtain ⟨k1,hk1⟩:∃ k1:Nat,(k:Int)+1=(k1:Int):=⟨k+1,by omega⟩;have wk1:=aa k1 (by omega);have e1:k1=k+1:=by omega
    rw [<-hP] at HAT HSM HTK hwl;rw [<-e1] at HTK;have HPK:=hid hP;have HE1:=hid e1;have hkc:k<=c1:=by omega
    have hkc1:k1<=c1:=by omega
    have HWH:Hid (∀ wx,Kp [] w3 wx->∀ m,m<=ls.length->Calls Tryz.prog 18 #[.slice (some ⟨g,0,none⟩) m c1] wx fun e w'=>e=.returned (.string (ba (wh (ls.take m))))/\w'=wx):=hid (fun wx kx m hm=>by
     have:=whole_p (w:=wx) (A:=some ⟨g,0,none⟩) (c:=c1) (ls:=ls.take m) (fun l hl=>HLO.out l (Pd hl)) (fun j l hj=>⟨g,rfl,by
      have hj2:ls[j]? = some l:=by
       rw [O7] at hj;split at hj
       .exact hj
       .cases hj
      exact (kx.cell (p:=⟨g,j,none⟩) (World.block_lt_of_cell? _ _ (HCL.out j l hj2)) (by simp)).trans (HCL.out j l hj2)⟩) (by rw [OB];omega)
     rw [OB,show min m ls.length=m by omega] at this
     exact this)
    clear hw6 hxr X5 X6 B5 k5 l5 HFX K6 hc hlx hlr hP e1;go_wp2_with fail;rw [<-HW6.out,<-HXR.out];refine HSY6.out.mono ?_;rintro r w7 ⟨ey,my,dy,sy,rfl,Y7,k7,hy7⟩;clear HSY6;obtain ⟨X6,B6,hlx,hlr⟩:=HX6.out;have X7:=X6.aj k7;have B7:=B6.aj k7 (by simp);have K7:=X7.m.r.kp;have dx7:∀ p,Ed.blk ex mx dx sx5 p->¬ Ed.blk ey my dy sy p:=fun p hp hq=>by
     have:=hlx p hp;have:=hy7 p hq;omega
    have dr7:¬ Ed.blk ey my dy sy xr:=fun hq=>by
     have:=hy7 xr hq;omega
    have HW7a:=hid (HWH.out w7 K7 k1 (by have:=HE1.out;omega));have HW7b:=hid (HWH.out w7 K7 k (by omega));have HA7:=hid (HAH.out w7 K7);have HY7:=hid Y7;have H7:=hid (And.intro X7 (And.intro B7 (And.intro dx7 dr7)));clear X6 B6 hlx hlr X7 B7 K7 dx7 dr7 Y7 hy7 k7 HX6 HW6 HXR HWH;go_wp2_with fail;refine HW7a.out.mono ?_;rintro r w8 ⟨rfl,rfl⟩;rw [HTK.out];go_wp2_with fail;refine HA7.out.mono ?_;rintro r w9 ⟨rfl,rfl⟩
    cases ah with
    | true=>
     have HS:=HSM.out rfl;have HFY:=CN (d:=P++[120]) HP.out HY7.out (fun _=>by rw [N9,Oq];have:=HU0.out.2;omega);obtain ⟨G,hG⟩:∃ G,G=u0.feed S (P++[120]):=⟨_,rfl⟩;rw [<-hG] at HFY HS;obtain ⟨⟨go,gv,ge,gs⟩,ug⟩:=G;dsimp only at HFY HS;subst HS;replace HFY:=hid HFY;have ap3:ba P++⟨#[120]⟩=ba (P++[120]):=gu P [120];have zP:=aw P;have q3:¬ 9223372036854775807 < P.length+1:=by omega
     rw [<-HPK.out] at HW7b;clear hG;go_wp2_with fail;refine HW7b.out.mono ?_;rintro r w10 ⟨rfl,rfl⟩;go_wp2_with fail;refine HFY.out.mono ?_;rintro r w11 ⟨rfl,sy11,Y11,l11⟩;clear HFY;obtain ⟨X7,B7,dx7,dr7⟩:=H7.out;obtain ⟨X11,_⟩:=X7.beside l11 dx7;have B12:=Bl.alloc w11 (fJ (O++ro) gv ge gs) 31;have k12:=Kp.alloc [] w11 (.cells (fJ (O++ro) gv ge gs).toArray 31);have X12:=hid (X11.aj k12);have HA12:=hid (HAH.out _ X12.out.m.r.kp);have a0:=B12.at_ 0 _ rfl;clear X7 B7 dx7 dr7 X11 B12 k12 Y11 l11;go_wp2_with fail;refine HA12.out.mono ?_;rintro r w13 ⟨rfl,rfl⟩;go_wp2_with fail;go_round
     case rel=>exact ⟨k1,_,sx5,u9,by have:=HE1.out;omega,rfl,rfl,hid (by rw [HTK.out,HPK.out];exact HNX.out),X12⟩
     case measure=>have:=HE1.out;simp [intOf];omega
    | false=>
     have HFY:=CN (d:=P++(l++[10])) HP.out HY7.out (fun _=>by rw [N9,N9,Oq];have:=HU0.out.2;omega);rw [HAT.out] at HFY;unfold Ust.Rep.pre at HFY;dsimp only at HFY;replace HFY:=hid HFY;have HN2:=HEN.out rfl;go_wp2_with fail;refine HFY.out.mono ?_;rintro r w11 ⟨rfl,sy11,Y11,l11⟩;clear HFY;obtain ⟨X7,B7,dx7,dr7⟩:=H7.out;obtain ⟨X11,dx11⟩:=X7.beside l11 dx7;obtain ⟨B11,dr11⟩:=l11.bl B7 dr7;have B12:=Bl.alloc w11 (fJ (O++ro) rv re rs) 31;have k12:=Kp.alloc [] w11 (.cells (fJ (O++ro) rv re rs).toArray 31);have X12:=X11.aj k12;have Y12:=Y11.aj k12;have R12:=B11.aj k12 (by simp);have HA12:=hid (HAH.out _ X12.m.r.kp);have a0:=B12.at_ 0 _ rfl;have HE:=end_t HP.out Y12;rw [HN2] at HE;replace HE:=hid HE;obtain ⟨w12,hw12⟩:∃ w12,w12=w11.alloc (.cells (fJ (O++ro) rv re rs).toArray 31):=⟨_,rfl⟩;rw [<-hw12] at X12 Y12 R12 HE HA12 a0;have HW12:=hid hw12;have H12:=hid (And.intro X12 (And.intro R12 (And.intro dx11 dr11)))
     clear X7 B7 dx7 dr7 X11 dx11 B11 dr11 B12 k12 X12 Y12 R12 Y11 l11 hw12 HN2;go_wp2_with fail;rw [<-HW12.out];go_wp2_with fail;refine HA12.out.mono ?_;rintro r w13 ⟨rfl,rfl⟩;go_wp2_with fail;refine HE.out.mono ?_;rintro r w14 ⟨rfl,sy14,Y14,l14⟩;clear HE;obtain ⟨X12,R12,dx12,dr12⟩:=H12.out;obtain ⟨X14,_⟩:=X12.beside l14 dx12;obtain ⟨R14,_⟩:=l14.bl R12 dr12;have B15:=Bl.alloc w14 (fJ [] true re rs) 31;have k15:=Kp.alloc [] w14 (.cells (fJ [] true re rs).toArray 31);have X15:=hid (X14.aj k15);have R15:=R14.aj k15 (by simp);have b0:=B15.at_ 0 _ rfl;have b2:=B15.at_ 2 _ rfl;have b3:=B15.at_ 3 _ rfl;have r2:=R15.at_ 2 _ rfl;have r3:=R15.at_ 3 _ rfl;have ap4:ba (O++ro)++ba []=ba (O++ro):=by rw [gu,Oy]
     have q4:¬ 9223372036854775807 < (ba (O++ro)).size+(ba ([]:List UInt8)).size:=by
      rw [aw,aw];simp only [Pa];omega
     clear X12 R12 dx12 dr12 X14 R14 B15 k15 R15 Y14 l14;go_wp2_with fail;go_round
     case rel=>exact ⟨k1,_,sx5,u9,by have:=HE1.out;omega,rfl,rfl,hid (by rw [HTK.out,HPK.out];exact HNX.out),X15⟩
     case measure=>have:=HE1.out;simp [intOf];omega
end
end Go.Proofs.YtiahkfoojjpaaaaGreatDoor
