import Derived.Test.YtiahkfoojjpaaaaGreatDoorU37
import Derived.Test.YtiahkfoojjpaaaaGreatDoorU38
set_option maxRecDepth 100000
set_option maxHeartbeats 16000000
set_option linter.all false
namespace Go.Proofs.YtiahkfoojjpaaaaGreatDoor
open Go.RowKit
def apB (x:ByteArray):ByteArray:=if x.size=0 then noB else ⟨#[32]⟩++x
def GW (n:Nat):ByteArray:=if n=0 then noB else ba (Lib.decDigits n)
def AdrS.txt:AdrS->ByteArray
 | .num n=>ba (Lib.decDigits n)
 | .last=>⟨#[36]⟩
 | .pat q=>⟨#[47]⟩++q.txt++⟨#[47]⟩
def aV.flg1 (c:aV):ByteArray:=(if c.all then ⟨#[103]⟩ else noB)++GW c.number
def aV.flg2 (c:aV):ByteArray:=if c.print then c.flg1++⟨#[112]⟩ else c.flg1
def aV.flg (c:aV):ByteArray:=if c.name.size=0 then c.flg2 else c.flg2++(⟨#[119]⟩++apB c.name)
def aV.opr (c:aV):ByteArray:=
 if c.what=58\/c.what=98\/c.what=116 then apB c.label
 else if c.what=119 then apB c.name
 else if c.what=97\/c.what=105\/c.what=99 then apB c.text.src
 else if c.what=113 then apB (GW c.status)
 else if c.what=115 then ⟨#[47]⟩++(match c.pat with | some q=>q.txt | none=>noB)++⟨#[47]⟩++c.new.src++⟨#[47]⟩++c.flg
 else if c.what=121 then ⟨#[47]⟩++c.jd.src++⟨#[47]⟩++c.yto.src++⟨#[47]⟩
 else noB
def adrsT:List AdrS->List UInt8
 | []=>[]
 | a::l=>a.txt.data.toList++l.flatMap fun b=>44::b.txt.data.toList
def aV.txt (c:aV):List UInt8:=adrsT c.dV++((if c.neg then [33] else [])++(UInt8.ofNat c.what::(c.opr.data.toList++[10])))
def eF.txt (S:eF):List UInt8:=(if S.quiet then [35,110,10] else [])++S.aG.flatMap aV.txt
structure ye (c:aV):Prop where
 lb:c.label.size<=2000
 nm:c.name.size<=2000
 tx:c.text.src.size<=2000
 pt:∀ q,c.pat=some q->q.txt.size<=2000
 nw:c.new.src.size<=2000
 yf:c.jd.src.size<=2000
 yt:c.yto.src.size<=2000
 ap:∀ q,AdrS.pat q∈c.dV->q.txt.size<=2000
theorem size0 {x:ByteArray} (h:x.size=0):x=noB:=by
 obtain ⟨d⟩:=x;have:d=#[]:=Array.eq_empty_of_size_eq_zero h;rw [this]
theorem ne_nil {x:ByteArray} (h:¬ x.size=0):x.toList.isEmpty=false:=by
 cases e:x.toList.isEmpty with
 | false=>rfl
 | true=>
  refine absurd ?_ h;have e:=List.isEmpty_iff.1 e;rw [toList_data] at e;show x.data.size=0;rw [<-Oo,e]
  rfl
section
variable {w w0 wx:World} {lo hi sb:Nat} {σ:Sst} {S:eF} {ca co:Nat} {cv:List Value} {c:aV}
theorem Ja (x:ByteArray) (hx:x.size<=100000) (w:World):Calls Tryz.prog 109 #[.string x] w fun r w'=>r=.returned (.string (apB x))/\w'=w:=by
 by_cases h0:x.size=0
 .have e:=size0 h0;subst e;go_enter Tryz.func109,Tryz.ntmps109
  go_wp2_with fail;go_ret;exact ⟨rfl,rfl⟩
 .have hn:=ne_nil h0;have hs:¬ 9223372036854775807 < 1+x.size:=by omega
  have HE:Hid (apB x=⟨#[32]⟩++x):=hid (by unfold apB;rw [Nr h0]);go_enter Tryz.func109,Tryz.ntmps109
  go_wp2_with fail;go_ret;exact ⟨by rw [HE.out];rfl,rfl⟩
theorem Bp (n:Nat) (hn:n<=1000000) (hp:Pow w):Calls Tryz.prog 110 #[.int .i64 n] w fun r w'=>r=.returned (.string (GW n))/\Kp [] w w':=by
 by_cases h0:n=0
 .subst h0;go_enter Tryz.func110,Tryz.ntmps110
  go_wp2_with fail;go_ret;exact ⟨rfl,Kp.refl _ _⟩
 .have HI:=Ho (n:Int) (by omega) (by omega) w hp;rw [Lib.itoa_nonneg] at HI;have HI:=hid HI;have hq:((n:Int) == 0)=false:=by rw [Nz];omega
  have HE:Hid (GW n=ba (Lib.decDigits n)):=hid (by unfold GW;rw [Nr h0]);go_enter Tryz.func110,Tryz.ntmps110
  go_wp2_with fail;refine HI.out.mono ?_;rintro r w1 ⟨rfl,kk,os,hw⟩;have K1:Hid (Kp [] w w1):=hid (by rw [hw];exact fw _ _ _);clear hw;go_wp2_with fail;go_ret;exact ⟨by rw [HE.out];rfl,K1.out⟩
theorem rY (n:Nat) (h:n<=1000000):(GW n).size<=8:=by
 unfold GW;split
 .exact NH _
 .rw [ay];exact iq 7 n (by omega)
theorem qP (x:ByteArray):(apB x).size<=1+x.size:=by
 unfold apB;split
 .exact NH _
 .rw [NU];exact Nw _
theorem adrT_t (a:AdrS) {fs:List (Nat×Obj)} {p o:Nat} {va:List Value} (hA:Nh fs a.A va) (hc:∀ j u,va[j]? = some u->w.cell? ⟨p,o+j,none⟩=some u) (hp:Pow w) (hn:∀ n,a=.num n->n<=1000000) (hq:∀ q,a=.pat q->q.txt.size<=2000) :
  Calls Tryz.prog 55 #[.pointer (some ⟨p,o,none⟩)] w fun r w'=>r=.returned (.string a.txt)/\Kp [] w w':=by
 cases a with
 | num n=>
  have hA:va=iE 0 n:=hA;subst hA;have c0:w.cell? ⟨p,o,none⟩=some (.int .i64 0):=hc 0 _ rfl;have c1:=hc 1 _ rfl;have hn:=hn n rfl;have HI:=Ho (n:Int) (by omega) (by omega) w hp;rw [Lib.itoa_nonneg] at HI;replace HI:=hid HI;clear hc hq hp;go_enter Tryz.func55,Tryz.ntmps55
  go_wp2_with fail;refine HI.out.mono ?_;rintro r w1 ⟨rfl,kk,os,hw⟩;have K1:Hid (Kp [] w w1):=hid (by rw [hw];exact fw _ _ _);clear hw;go_wp2_with fail;go_ret;exact ⟨rfl,K1.out⟩
 | last=>
  have hA:va=iE 1 0:=hA;subst hA;have c0:w.cell? ⟨p,o,none⟩=some (.int .i64 1):=hc 0 _ rfl;clear hc hq hp;go_enter Tryz.func55,Tryz.ntmps55
  go_wp2_with fail;go_ret;exact ⟨rfl,Kp.refl _ _⟩
 | pat q=>
  obtain ⟨pb,g,o1,o2,rfl,_⟩:=hA;have c0:w.cell? ⟨p,o,none⟩=some (.int .i64 2):=hc 0 _ rfl;have c3:=hc 3 _ rfl;have hz:=hq q rfl;obtain ⟨X,hX⟩:∃ X,X=q.txt:=⟨_,rfl⟩;rw [<-hX] at c3 hz;have HE:Hid (AdrS.txt (.pat q)=⟨#[47]⟩++X++⟨#[47]⟩):=hid (by rw [hX];rfl);have q1:¬ 9223372036854775807 < 1+X.size:=by omega
  have q2:¬ 9223372036854775807 < 1+X.size+1:=by omega
  clear hc hq hp hX hn;go_enter Tryz.func55,Tryz.ntmps55
  go_wp2_with fail;go_ret;exact ⟨by rw [HE.out];rfl,Kp.refl _ _⟩
theorem MT (hn:c.number<=1000000) (hm:c.name.size<=2000):c.flg.size<=3000:=by
 have h0:(if c.all then (⟨#[103]⟩:ByteArray) else noB).size<=1:=by
  split
  .exact Nw _
  .exact NH _
 have h1:c.flg1.size<=9:=by
  have:=rY c.number hn;unfold aV.flg1;rw [NU];omega
 have h2:c.flg2.size<=10:=by
  unfold aV.flg2;split
  .rw [NU];show c.flg1.size+1<=10;omega
  .omega
 unfold aV.flg;split
 .omega
 .have:=qP c.name;rw [NU,NU];show c.flg2.size+(1+(apB c.name).size)<=3000;omega
structure CmdC (fs:List (Nat×Obj)) (w:World) (ca co:Nat) (c:aV):Prop where
 cell:∃ cv,pL fs cv c/\∀ j u,cv[j]? = some u->w.cell? ⟨ca,co+j,none⟩=some u
 blk:ca < w.heap.size
 fx:∀ f∈fs,w.heap[f.1]? = some f.2
theorem CmdC.aj {fs:List (Nat×Obj)} {w w':World} {ca co:Nat} {c:aV} (h:CmdC fs w ca co c) (k:Kp [] w w'):CmdC fs w' ca co c:=by
 obtain ⟨cv,h1,h2⟩:=h.cell;exact ⟨⟨cv,h1,fun j u hu=>(k.cell (p:=⟨ca,co+j,none⟩) h.blk (by simp)).trans (h2 j u hu)⟩,Ns h.blk k.size,fun f hf=>(k.block f.1 (aM (h.fx f hf)) (by simp)).trans (h.fx f hf)⟩
variable {fs:List (Nat×Obj)}
theorem flags_c (h:CmdC fs w ca co c) (hs:ye c) (hp:Pow w) (hn:c.number<=1000000):Calls Tryz.prog 111 #[.pointer (some ⟨ca,co,none⟩)] w fun r w'=>r=.returned (.string c.flg)/\Kp [] w w':=by
 obtain ⟨cv,hI,hc⟩:=h.cell;have c6:=hc 6 _ hI.rest.c6;have c16:=hc 16 _ hI.rest.c16;have c17:=hc 17 _ hI.rest.c17;have c18:=hc 18 _ hI.rest.c18;have hbl:=h.blk;have hz:=hs.nm;have HN:=hid (Bp c.number hn hp);have HAP:Hid (∀ w,Calls Tryz.prog 109 #[.string c.name] w fun r w'=>r=.returned (.string (apB c.name))/\w'=w):=hid (fun w=>Ja c.name (by omega) w);obtain ⟨N,hN⟩:∃ N,N=GW c.number:=⟨_,rfl⟩;obtain ⟨AP,hAP⟩:∃ AP,AP=apB c.name:=⟨_,rfl⟩;obtain ⟨nm,hnm⟩:∃ nm,nm=c.name:=⟨_,rfl⟩;obtain ⟨nu,hnu⟩:∃ nu,nu=c.number:=⟨_,rfl⟩;have zN:N.size<=8:=by rw [hN];exact rY _ hn
 have zA:AP.size<=2001:=by rw [hAP];have:=qP c.name;omega
 have HF:Hid (c.flg=if nm.size=0 then (if c.print then (if c.all then ⟨#[103]⟩ else noB)++N++⟨#[112]⟩ else (if c.all then ⟨#[103]⟩ else noB)++N) else (if c.print then (if c.all then ⟨#[103]⟩ else noB)++N++⟨#[112]⟩ else (if c.all then ⟨#[103]⟩ else noB)++N)++(⟨#[119]⟩++AP)):=hid (by rw [hN,hAP,hnm];rfl);rw [<-hN,<-hnu] at HN;rw [<-hAP,<-hnm] at HAP;rw [<-hnm] at c6 hz;rw [<-hnu] at c17;obtain ⟨R,hR⟩:∃ R,R=c.flg:=⟨_,rfl⟩;rw [<-hR] at HF ⊢;have q1:¬ 9223372036854775807 < N.size:=by omega
 have q2:¬ 9223372036854775807 < 1+N.size:=by omega
 have q3:¬ 9223372036854775807 < N.size+1:=by omega
 have q4:¬ 9223372036854775807 < 1+N.size+1:=by omega
 have q5:¬ 9223372036854775807 < 1+AP.size:=by omega
 have q6:¬ 9223372036854775807 < N.size+(1+AP.size):=by omega
 have q7:¬ 9223372036854775807 < 1+N.size+(1+AP.size):=by omega
 have q8:¬ 9223372036854775807 < N.size+1+(1+AP.size):=by omega
 have q9:¬ 9223372036854775807 < 1+N.size+1+(1+AP.size):=by omega
 have hn0:nm.size=0/\nm.toList.isEmpty=true\/¬ nm.size=0/\nm.toList.isEmpty=false:=by
  by_cases e:nm.size=0
  .exact .inl ⟨e,by rw [size0 e,toList_data];rfl⟩
  .exact .inr ⟨e,ne_nil e⟩
 obtain ⟨al,hal⟩:∃ al,al=c.all:=⟨_,rfl⟩;obtain ⟨pr,hpr⟩:∃ pr,pr=c.print:=⟨_,rfl⟩;rw [<-hal,<-hpr] at HF;rw [<-hal] at c16;rw [<-hpr] at c18;have K0:∀ w1,Kp [] w w1->w1.cell? ⟨ca,co+6,none⟩=some (.string nm)/\w1.cell? ⟨ca,co+18,none⟩=some (.bool pr):=fun w1 k1=>⟨(k1.cell (p:=⟨ca,co+6,none⟩) hbl (by simp)).trans c6,(k1.cell (p:=⟨ca,co+18,none⟩) hbl (by simp)).trans c18⟩
 have HK:=hid K0;clear h hI hc hbl hs hp hn hN hAP hnm hnu hR hal hpr K0 c6 c18
 cases al <;> cases pr <;> rcases hn0 with ⟨n0,n1⟩ | ⟨n0,n1⟩
 all_goals
  go_enter Tryz.func111,Tryz.ntmps111
  go_wp2_with fail;refine HN.out.mono ?_;rintro r w1 ⟨rfl,k1⟩;obtain ⟨d6,d18⟩:=HK.out w1 k1;go_wp2_with (go_at_call 109;refine (HAP.out _).mono ?_;rintro r w2 ⟨rfl,rfl⟩)
  go_ret;refine ⟨?_,k1⟩
  first
   | (rw [HF.out,Ny n0];rfl)
   | (rw [HF.out,Nr n0];rfl)
theorem Gy (h:CmdC fs w ca co c) (hs:ye c) (hp:Pow w) (hn:c.number<=1000000) (ht:c.status<=255) (hx:c.what < 256) (hsp:c.what=115->c.pat≠none):Calls Tryz.prog 56 #[.pointer (some ⟨ca,co,none⟩)] w fun r w'=>r=.returned (.string c.opr)/\Kp [] w w':=by
 obtain ⟨cv,hI,hc⟩:=h.cell;have HFL:Hid (∀ wx,Kp [] w wx->Calls Tryz.prog 111 #[.pointer (some ⟨ca,co,none⟩)] wx fun r w'=>r=.returned (.string c.flg)/\Kp [] wx w'):=hid (fun wx kx=>flags_c (h.aj kx) hs (hp.aj kx) hn);have HNS:=hid (Bp c.status (by omega) hp);have HAP:Hid (∀ x:ByteArray,x.size<=100000->∀ w,Calls Tryz.prog 109 #[.string x] w fun r w'=>r=.returned (.string (apB x))/\w'=w):=hid (fun x hx w=>Ja x hx w);have c3:=hc 3 _ hI.c3;have c4:=hc 4 _ hI.rest.c4;have c6:=hc 6 _ hI.rest.c6;have c8:=hc 8 _ hI.rest.c8;have c9:=hc 9 _ hI.rest.c9;have c13:=hc 13 _ hI.rest.c13;have c19:=hc 19 _ hI.rest.c19;have c21:=hc 21 _ hI.rest.c21;have hbl:=h.blk;have z4:=hs.lb;have z6:=hs.nm;have z9:=hs.tx;have z13:=hs.nw;have z19:=hs.yf;have z21:=hs.yt;have HR:Hid (c.opr=c.opr):=hid rfl;unfold aV.opr at HR;obtain ⟨R,hR⟩:∃ R,R=c.opr:=⟨_,rfl⟩;rw [<-hR];obtain ⟨x,hxw⟩:∃ x,x=c.what:=⟨_,rfl⟩;have HD:x=58\/x=98\/x=116\/x=119\/x=97\/x=105\/x=99\/x=113\/x=115\/x=121\/(¬ x=58/\¬ x=98/\¬ x=116/\¬ x=119/\¬ x=97/\¬ x=105/\¬ x=99/\¬ x=113/\¬ x=115/\¬ x=121):=by omega
 have HO:R=if x=58\/x=98\/x=116 then apB c.label
  else if x=119 then apB c.name
  else if x=97\/x=105\/x=99 then apB c.text.src
  else if x=113 then apB (GW c.status)
  else if x=115 then ⟨#[47]⟩++(match c.pat with | some q=>q.txt | none=>noB)++⟨#[47]⟩++c.new.src++⟨#[47]⟩++c.flg
  else if x=121 then ⟨#[47]⟩++c.jd.src++⟨#[47]⟩++c.yto.src++⟨#[47]⟩
  else noB:=by rw [hR,hxw];rfl
 rw [<-hxw] at c3 hsp;clear HR hR;rcases HD with rfl | rfl | rfl | rfl | rfl | rfl | rfl | rfl | rfl | rfl | HD
 case inr.inr.inr.inr.inr.inr.inr.inr.inr.inr=>
  obtain ⟨n1,n2,n3,n4,n5,n6,n7,n8,n9,n10⟩:=HD;rw [Nr (by omega),Nr n4,Nr (by omega),Nr n8,Nr n9,Nr n10] at HO;subst HO;have b1:((x:Int) == 58)=false:=by rw [Nz];omega
  have b2:((x:Int) == 98)=false:=by rw [Nz];omega
  have b3:((x:Int) == 116)=false:=by rw [Nz];omega
  have b4:((x:Int) == 119)=false:=by rw [Nz];omega
  have b5:((x:Int) == 97)=false:=by rw [Nz];omega
  have b6:((x:Int) == 105)=false:=by rw [Nz];omega
  have b7:((x:Int) == 99)=false:=by rw [Nz];omega
  have b8:((x:Int) == 113)=false:=by rw [Nz];omega
  have b9:((x:Int) == 115)=false:=by rw [Nz];omega
  have b10:((x:Int) == 121)=false:=by rw [Nz];omega
  clear hxw hx n1 n2 n3 n4 n5 n6 n7 n8 n9 n10 hsp;go_enter Tryz.func56,Tryz.ntmps56
  go_wp2_with fail;go_ret;exact ⟨rfl,Kp.refl _ _⟩
 case inr.inr.inr.inr.inr.inr.inr.inr.inl=>
  obtain ⟨q,hq⟩:=Option.ne_none_iff_exists'.1 (hsp rfl);have hP:=hI.rest.c11;rw [hq] at hP HO;replace HO:R=⟨#[47]⟩++q.txt++⟨#[47]⟩++c.new.src++⟨#[47]⟩++c.flg:=HO;obtain ⟨v,t,e1,e2,pb,g,o1,o2,rfl,rfl,_⟩:=hP;have c12:=hc 12 _ e2;have zq:=hs.pt q hq;have zf:=MT hn z6;obtain ⟨T,hT⟩:∃ T,T=q.txt:=⟨_,rfl⟩;obtain ⟨NW,hNW⟩:∃ NW,NW=c.new.src:=⟨_,rfl⟩;obtain ⟨FG,hFG⟩:∃ FG,FG=c.flg:=⟨_,rfl⟩;rw [<-hT,<-hNW,<-hFG] at HO;rw [<-hT] at c12 zq;rw [<-hNW] at c13 z13;rw [<-hFG] at zf HFL;have q1:¬ 9223372036854775807 < 1+T.size:=by omega
  have q2:¬ 9223372036854775807 < 1+T.size+1:=by omega
  have q3:¬ 9223372036854775807 < 1+T.size+1+NW.size:=by omega
  have q4:¬ 9223372036854775807 < 1+T.size+1+NW.size+1:=by omega
  have q5:¬ 9223372036854775807 < 1+T.size+1+NW.size+1+FG.size:=by omega
  have HK:Hid (∀ w1,Kp [] w w1->w1.cell? ⟨ca,co+12,none⟩=some (.string T)/\w1.cell? ⟨ca,co+13,none⟩=some (.string NW)):=hid (fun w1 k1=>⟨(k1.cell (p:=⟨ca,co+12,none⟩) hbl (by simp)).trans c12,(k1.cell (p:=⟨ca,co+13,none⟩) hbl (by simp)).trans c13⟩);obtain ⟨d12,d13⟩:=HK.out w.drew (Kp.drew [] w);have HO2:=hid HO;clear hxw hx hsp HO hT hNW hFG hq e1 e2 hI hc h hs hp hn ht c12 c13 c4 c6 c8 c9 c19 c21;go_enter Tryz.func56,Tryz.ntmps56
  go_wp2_with fail;go_region_with (go_at_call 111;refine (HFL.out _ (Kp.drew [] w)).mono ?_;rintro r w1 ⟨rfl,k1⟩;obtain ⟨e12,e13⟩:=HK.out w1 ((Kp.drew [] w).trans k1))
  all_goals
   go_wp2_with fail;go_ret;exact ⟨by rw [HO2.out];rfl,(Kp.drew [] w).trans k1⟩
 case inr.inr.inr.inr.inr.inr.inr.inr.inr.inl=>
  simp at HO;obtain ⟨T,hT⟩:∃ T,T=c.jd.src:=⟨_,rfl⟩;obtain ⟨NW,hNW⟩:∃ NW,NW=c.yto.src:=⟨_,rfl⟩;rw [<-hT,<-hNW] at HO;rw [<-hT] at c19 z19;rw [<-hNW] at c21 z21;have q1:¬ 9223372036854775807 < 1+T.size:=by omega
  have q2:¬ 9223372036854775807 < 1+T.size+1:=by omega
  have q3:¬ 9223372036854775807 < 1+T.size+1+NW.size:=by omega
  have q4:¬ 9223372036854775807 < 1+T.size+1+NW.size+1:=by omega
  have d19:=((Kp.drew [] w).cell (p:=⟨ca,co+19,none⟩) hbl (by simp)).trans c19;have d21:=((Kp.drew [] w).cell (p:=⟨ca,co+21,none⟩) hbl (by simp)).trans c21;have HO2:=hid HO;clear hxw hx hsp HO hT hNW hI hc h hs hp hn ht c4 c6 c8 c9 c13 c19 c21;go_enter Tryz.func56,Tryz.ntmps56
  go_wp2_with fail;go_region_with fail
  all_goals
   go_wp2_with fail;go_ret;exact ⟨by rw [HO2.out];rfl,Kp.drew [] w⟩
 case inr.inr.inr.inr.inr.inr.inr.inl=>
  simp at HO;have zn:(GW c.status).size<=100000:=by have:=rY c.status (by omega);omega
  subst HO;clear hxw hx hsp;go_enter Tryz.func56,Tryz.ntmps56
  go_wp2_with fail;refine HNS.out.mono ?_;rintro r w1 ⟨rfl,k1⟩;go_wp2_with fail;refine (HAP.out _ zn _).mono ?_;rintro r w2 ⟨rfl,rfl⟩;go_wp2_with fail;go_ret;exact ⟨rfl,k1⟩
 all_goals
  simp at HO;subst HO;clear hxw hx hsp;go_enter Tryz.func56,Tryz.ntmps56
  go_wp2_with fail;refine (HAP.out _ (by omega) _).mono ?_;rintro r w2 ⟨rfl,rfl⟩;go_wp2_with fail;go_ret;exact ⟨rfl,Kp.refl _ _⟩
end
section
variable {fs:List (Nat×Obj)} {cv cv':List Value} {c c2:aV}
theorem BU (hl:Cv cv) (h6:cv[6]? = some (.string c.name)) (h7:cv[7]? = some (.int .i64 c.file)) (h16:cv[16]? = some (.bool c.all)) (h17:cv[17]? = some (.int .i64 c.number)) (h18:cv[18]? = some (.bool c.print)):FlC cv c=cv:=by
 obtain ⟨x0,x1,x2,x3,x4,x5,x6,x7,x8,x9,x10,x11,x12,x13,x14,x15,x16,x17,x18,x19,x20,x21,x22,rfl⟩:=dS hl.len;have e6:x6=_:=Option.some.inj h6;have e7:x7=_:=Option.some.inj h7;have e16:x16=_:=Option.some.inj h16;have e17:x17=_:=Option.some.inj h17;have e18:x18=_:=Option.some.inj h18;subst e6 e7 e16 e17 e18
 rfl
theorem PatV.same {p:Option Ptn} (h:PatV fs cv p) (h1:cv'[11]? = cv[11]?) (h2:cv'[12]? = cv[12]?):PatV fs cv' p:=by
 cases p with
 | none=>exact ⟨h1.trans h.1,h2.trans h.2⟩
 | some p=>
  obtain ⟨v,t,e1,e2,h⟩:=h;exact ⟨v,t,h1.trans e1,h2.trans e2,h⟩
theorem fU.flc (h:fU fs cv c) (hl:Cv cv) (hc:c2={ c with name:=c2.name,file:=c2.file,all:=c2.all,number:=c2.number,print:=c2.print }):fU fs (FlC cv c2) c2:=by
 have l1:c2.label=c.label:=(congrArg aV.label hc).trans rfl;have l2:c2.goal=c.goal:=(congrArg aV.goal hc).trans rfl;have l3:c2.status=c.status:=(congrArg aV.status hc).trans rfl;have l4:c2.text=c.text:=(congrArg aV.text hc).trans rfl;have l5:c2.pat=c.pat:=(congrArg aV.pat hc).trans rfl;have l6:c2.new=c.new:=(congrArg aV.new hc).trans rfl;have l7:c2.dm=c.dm:=(congrArg aV.dm hc).trans rfl;have l8:c2.jd=c.jd:=(congrArg aV.jd hc).trans rfl;have l9:c2.yto=c.yto:=(congrArg aV.yto hc).trans rfl;clear hc;obtain ⟨x0,x1,x2,x3,x4,x5,x6,x7,x8,x9,x10,x11,x12,x13,x14,x15,x16,x17,x18,x19,x20,x21,x22,rfl⟩:=dS hl.len;refine ⟨?_,?_,rfl,rfl,?_,?_,?_,?_,?_,?_,?_,rfl,rfl,rfl,?_,?_,?_,?_⟩
 .rw [l1];exact h.c4
 .rw [l2];exact h.c5
 .rw [l3];exact h.c8
 .rw [l4];exact h.c9
 .rw [l4];exact h.c10
 .rw [l5];exact h.c11.same rfl rfl
 .rw [l6];exact h.c13
 .rw [l6];exact h.c14
 .rw [l7];exact h.c15
 .rw [l8];exact h.c19
 .rw [l8];exact h.c20
 .rw [l9];exact h.c21
 .rw [l9];exact h.c22
theorem pL.goal (h:pL fs cv c) (n:Nat):pL fs (cv.set 5 (.int .i64 n)) { c with goal:=n }:=by
 have l5:5 < cv.length:=by
  have:=h.rest.c5;rw [List.getElem?_eq_some_iff] at this;exact this.1
 have q:∀ j,j≠5->(cv.set 5 (.int .i64 n))[j]? = cv[j]?:=fun j hj=>NL (Ne.symm hj);obtain ⟨v0,h0,h0'⟩:=h.c0;obtain ⟨v15,h15,h15'⟩:=h.rest.c15;refine ⟨⟨v0,(q 0 (by omega)).trans h0,h0'⟩,(q 1 (by omega)).trans h.c1,(q 2 (by omega)).trans h.c2,(q 3 (by omega)).trans h.c3,?_⟩;refine ⟨(q 4 (by omega)).trans h.rest.c4,NK l5,(q 6 (by omega)).trans h.rest.c6,(q 7 (by omega)).trans h.rest.c7,(q 8 (by omega)).trans h.rest.c8,(q 9 (by omega)).trans h.rest.c9,(q 10 (by omega)).trans h.rest.c10,h.rest.c11.same (q 11 (by omega)) (q 12 (by omega)),(q 13 (by omega)).trans h.rest.c13,(q 14 (by omega)).trans h.rest.c14,⟨v15,(q 15 (by omega)).trans h15,h15'⟩,(q 16 (by omega)).trans h.rest.c16,(q 17 (by omega)).trans h.rest.c17,(q 18 (by omega)).trans h.rest.c18,(q 19 (by omega)).trans h.rest.c19,(q 20 (by omega)).trans h.rest.c20,(q 21 (by omega)).trans h.rest.c21,(q 22 (by omega)).trans h.rest.c22⟩
end
theorem jc.names {σ σ':Sst} {r:RdS} {l:List ByteArray} (h:jc σ r) (hn:NmTo σ σ' l):jc σ' { r with names:=l }:=by
 obtain ⟨hr,v,e⟩:=hn;have e1:σ'.cs=σ.cs:=(congrArg Sst.cs e).trans rfl;have e2:σ'.fs=σ.fs:=(congrArg Sst.fs e).trans rfl;refine ⟨by rw [e1];exact h.len,fun i cv c h1 h2=>?_,hr,(congrArg Sst.ranges e).trans h.rg,(congrArg Sst.bs e).trans h.bs,(congrArg Sst.ls e).trans h.ls,(congrArg Sst.gs e).trans h.gs⟩;rw [e1] at h1;rw [e2];exact h.cs i cv c h1 h2
theorem tV {α:Type} (p:α->Bool):∀ l:List α,l.any p=(l.find? p).isSome
 | []=>rfl
 | a::l=>by
  rw [List.any_cons,OS,tV p l]
  cases p a <;> rfl
section
variable {w0:World} {f b k:Nat} {src:ByteArray} {σ:Sst} {r:RdS} {L:List AdrS} {rn x:Nat} {nt:Bool}
theorem gD {e:Nat} {r2:RdS} {c2:aV} {R:Sst->List Value->Sst->List Value->Prop} (h:Cs w0 f b src k e σ R)
  (hx:∀ cv σ' cv',Cz cv->Cv cv->R σ cv σ' cv'->cv'.take 4=cv.take 4/\fU σ'.fs cv' c2/\(jc σ r->jc σ' r2)/\Nf σ σ'):gK w0 f b src k σ r (.ok (e,r2,c2)):=by
 intro w cb cv hs hb hl hz hf hsl;refine (h w cb cv hs hb hl hz hf hsl).mono ?_;rintro q w1 ⟨σ',cv',rfl,s1,b1,l1,f1,hR⟩;obtain ⟨x1,x2,x3,x4⟩:=hx cv σ' cv' hz hl hR;exact ⟨rfl,σ',cv',s1,b1,l1,f1,x1,x2,x3,x4⟩
theorem gj {E pl:Nat} (h:OpF w0 f b src k σ E pl):gK w0 f b src k σ r (.error (E,pl)):=by
 intro w cb cv hs hb hl hz hf hsl;refine (h w cb cv hs hb hl hz hf hsl).mono ?_;rintro q w1 ⟨rfl,hk⟩;exact ⟨rfl,hk⟩
theorem yQ:gK w0 101 b src k σ r (.ok (k,r,du L rn nt x)):=
 gD ((Db w0 b src k).at_ σ) (by rintro cv σ' cv' hz hl ⟨rfl,rfl⟩;exact ⟨rfl,dq hz L rn nt x,fun h=>h,⟨rfl,rfl,fun _ h=>h⟩⟩)
theorem Dc (hk:k<=src.size):gK w0 99 b src k σ r (operE src k r (du L rn nt 113)):=by
 have hle:=eE hk
 cases h:Jw src 0 255 (blk src k) with
 | error pl=>
  have e:operE src k r (du L rn nt 113)=.error (4,pl):=by simp only [operE,du,Nat.reduceEqDiff,if_false,or_self,if_true,h]
  rw [e];exact gj (Dd (rX h))
 | ok p=>
  obtain ⟨e,v⟩:=p;have e1:operE src k r (du L rn nt 113)=.ok (e,r,{ du L rn nt 113 with status:=v }):=by simp only [operE,du,Nat.reduceEqDiff,if_false,or_self,if_true,h]
  rw [e1];refine gD ((GK w0 (rV (by omega) hle h)).at_ σ) ?_;rintro cv σ' cv' hz hl ⟨rfl,rfl⟩;have rz:=dq (fs:=σ'.fs) hz L rn nt 113;obtain ⟨x0,x1,x2,x3,x4,x5,x6,x7,x8,x9,x10,x11,x12,x13,x14,x15,x16,x17,x18,x19,x20,x21,x22,rfl⟩:=dS hl.len;exact ⟨rfl,⟨rz.c4,rz.c5,rz.c6,rz.c7,rfl,rz.c9,rz.c10,rz.c11,rz.c13,rz.c14,rz.c15,rz.c16,rz.c17,rz.c18,rz.c19,rz.c20,rz.c21,rz.c22⟩,fun h=>h,⟨rfl,rfl,fun _ h=>h⟩⟩
theorem Kg (hr:Mp σ r) (hk:1<=k) (h8:r.blocks.length<=8) (hcs:r.aG.length<=2000):gK w0 92 b src k σ r (operE src k r (du L rn nt 123)):=by
 by_cases h:r.blocks.length=8
 .have e:operE src k r (du L rn nt 123)=.error (6,k - 1):=by simp only [operE,du,if_true,h]
  rw [e];exact gj (Kj (by rw [hr.bs];exact h) hk)
 .have e:operE src k r (du L rn nt 123)=.ok (k,{ r with blocks:=r.blocks++[r.aG.length] },du L rn nt 123):=by simp only [operE,du,if_true,h,if_false]
  rw [e];refine gD (op_open (by rw [hr.bs];omega) (by rw [hr.len];exact hcs)) ?_;rintro cv σ' cv' hz hl ⟨⟨v,rfl⟩,rfl⟩;exact ⟨rfl,dq hz L rn nt 123,fun hr=>⟨hr.len,hr.cs,⟨hr.nm.ns,hr.nm.nm⟩,hr.rg,by show σ.bs++_=r.blocks++_;rw [hr.bs,hr.len],hr.ls,hr.gs⟩,⟨rfl,rfl,fun _ h=>h⟩⟩
theorem Kf (hr:Mp σ r) (hk:1<=k) (h8:r.blocks.length<=8) (hcs:r.aG.length<=2000) (hbl:∀ i∈r.blocks,i < r.aG.length):gK w0 93 b src k σ r (operE src k r (du L rn nt 125)):=by
 cases h:r.blocks.getLast? with
 | none=>
  have e:operE src k r (du L rn nt 125)=.error (6,k - 1):=by simp only [operE,du,Nat.reduceEqDiff,if_false,if_true,h]
  rw [e];exact gj (Ki (by rw [hr.bs];exact List.getLast?_eq_none_iff.1 h) hk)
 | some i=>
  have e:operE src k r (du L rn nt 125)=.ok (k,{ r with blocks:=r.blocks.dropLast,aG:=r.aG.modify i fun d=>{ d with goal:=r.aG.length } },du L rn nt 125):=by simp only [operE,du,Nat.reduceEqDiff,if_false,if_true,h]
  rw [e];obtain ⟨l,hl⟩:=List.getLast?_eq_some_iff.1 h;have hi:i < r.aG.length:=hbl i (by rw [hl];simp);have hll:l.length<=8:=by rw [hl,Nu] at h8;omega
  obtain ⟨c,hc⟩:∃ c,σ.cs[i]? = some c:=⟨_,Nv (by rw [hr.len];exact hi)⟩;refine gD (op_shut (hr.bs.trans hl) hc (by rw [hr.len];exact hcs) hll) ?_;rintro cv σ' cv' hz hlv ⟨l',i',c',v,q1,q2,rfl,rfl⟩;rw [hr.bs.trans hl] at q1;obtain ⟨rfl,q3⟩:=List.append_inj' q1 rfl;injection q3 with q3;subst q3;rw [hc] at q2;injection q2 with q2;subst q2;refine ⟨rfl,dq hz L rn nt 125,fun hr=>⟨by simp [hr.len],fun j cv c2 h1 h2=>?_,⟨hr.nm.ns,hr.nm.nm⟩,hr.rg,by show l=r.blocks.dropLast;rw [hl,List.dropLast_concat],hr.ls,hr.gs⟩,⟨rfl,by simp,fun _ h=>h⟩⟩;replace h1:(σ.cs.set i (c.set 5 (.int .i64 (σ.cs.length:Int))))[j]? = some cv:=h1;replace h2:(r.aG.modify i fun d=>{ d with goal:=r.aG.length })[j]? = some c2:=h2;rw [Pl] at h2;by_cases hj:i=j
  .subst hj;rw [NK (by rw [hr.len];exact hi)] at h1;injection h1 with h1;subst h1;obtain ⟨d,hd⟩:∃ d,r.aG[i]? = some d:=⟨_,Nv hi⟩;rw [hd] at h2;simp only [if_true] at h2;injection h2 with h2;subst h2;rw [hr.len];exact (hr.cs i c d hc hd).goal _
  .rw [NL hj] at h1;simp only [hj,if_false] at h2;exact hr.cs j cv c2 h1 (by simpa using h2)
theorem GN (hr:Mp σ r) (hk:k<=src.size) (hcs:r.aG.length<=2000):gK w0 94 b src k σ r (operE src k r (du L rn nt 58)):=by
 have hle:=eE hk
 cases h:wdE src (blk src k) (src.size+1) (blk src k) with
 | error pl=>
  have e:operE src k r (du L rn nt 58)=.error (4,pl):=by simp only [operE,du,Nat.reduceEqDiff,if_false,if_true,wordE,h]
  rw [e];exact gj (GP (ri (by omega) hle h))
 | ok e=>
  have hw:wordE src k=.ok (e,src.extract (blk src k) e):=by unfold wordE;rw [h]
  have hx:=jf hk hw;obtain ⟨x,hxe⟩:∃ x,x=src.extract (blk src k) e:=⟨_,rfl⟩;rw [<-hxe] at hw hx
  cases ha:r.labels.any (x == ·.1)
  .have e1:operE src k r (du L rn nt 58)=.ok (e,{ r with labels:=r.labels++[(x,r.aG.length)] },{ du L rn nt 58 with label:=x }):=by simp only [operE,du,Nat.reduceEqDiff,if_false,if_true,hw,ha,O9]
   rw [e1];refine gD (Ke (ui h) hxe.symm (by rw [hr.ls];exact ji x _ 0 0 ha) (by rw [hr.len];exact hcs)) ?_;rintro cv σ' cv' hz hl ⟨rfl,rfl⟩;have rz:=dq (fs:=σ.fs) hz L rn nt 58;obtain ⟨x0,x1,x2,x3,x4,x5,x6,x7,x8,x9,x10,x11,x12,x13,x14,x15,x16,x17,x18,x19,x20,x21,x22,rfl⟩:=dS hl.len;exact ⟨rfl,⟨rfl,rz.c5,rz.c6,rz.c7,rz.c8,rz.c9,rz.c10,rz.c11,rz.c13,rz.c14,rz.c15,rz.c16,rz.c17,rz.c18,rz.c19,rz.c20,rz.c21,rz.c22⟩,fun hr=>⟨hr.len,hr.cs,⟨hr.nm.ns,hr.nm.nm⟩,hr.rg,hr.bs,by show σ.ls++_=r.labels++_;rw [hr.ls,hr.len],hr.gs⟩,⟨rfl,rfl,fun _ h=>h⟩⟩
  .have e1:operE src k r (du L rn nt 58)=.error (5,e - x.size):=by simp only [operE,du,Nat.reduceEqDiff,if_false,if_true,hw,ha]
   rw [e1];rw [tV] at ha;obtain ⟨⟨y,n⟩,hy⟩:=Option.isSome_iff_exists.1 ha;obtain ⟨j,hj⟩:=gN x _ 0 0 y n hy;exact gj (GO (ui h) hxe.symm (by omega) (by rw [hr.ls];exact hj))
theorem qi (hx:x=98\/x=116) (hr:Mp σ r) (hk:k<=src.size) (hsz:src.size<=2000) (hcs:r.aG.length<=2000):gK w0 95 b src k σ r (operE src k r (du L rn nt x)):=by
 have hle:=eE hk;have hle2:=eE hle;have n1:x≠123:=by omega
 have n2:x≠125:=by omega
 have n3:x≠58:=by omega
 cases hw:isW src (blk src k)
 .have e:operE src k r (du L rn nt x)=.ok (blk src k,{ r with wanted:=r.wanted++[(r.aG.length,blk src k)] },du L rn nt x):=by
   unfold operE;rw [show (du L rn nt x).what=x from rfl,Nr n1,Nr n2,Nr n3,Ny hx,hw,Nr (by simp)]
  rw [e];refine gD (Kl hw rfl rfl (by omega) (by rw [hr.len];exact hcs)) ?_;rintro cv σ' cv' hz hl ⟨⟨v,rfl⟩,rfl⟩;have rz:=dq (fs:=σ.fs) hz L rn nt x;obtain ⟨x0,x1,x2,x3,x4,x5,x6,x7,x8,x9,x10,x11,x12,x13,x14,x15,x16,x17,x18,x19,x20,x21,x22,rfl⟩:=dS hl.len;exact ⟨rfl,⟨rfl,rz.c5,rz.c6,rz.c7,rz.c8,rz.c9,rz.c10,rz.c11,rz.c13,rz.c14,rz.c15,rz.c16,rz.c17,rz.c18,rz.c19,rz.c20,rz.c21,rz.c22⟩,fun hr=>⟨hr.len,hr.cs,⟨hr.nm.ns,hr.nm.nm⟩,hr.rg,hr.bs,hr.ls,by show σ.gs++_=r.wanted++_;rw [hr.gs,hr.len]⟩,⟨rfl,rfl,fun _ h=>h⟩⟩
 .cases h:wdE src (blk src (blk src k)) (src.size+1) (blk src (blk src k)) with
  | error pl=>
   have e:operE src k r (du L rn nt x)=.error (4,pl):=by
    unfold operE;rw [show (du L rn nt x).what=x from rfl,Nr n1,Nr n2,Nr n3,Ny hx,hw,Ny rfl];unfold wordE;rw [h]
   rw [e];exact gj (De hw (ri (by omega) hle2 h))
  | ok e=>
   have hwd:wordE src (blk src k)=.ok (e,src.extract (blk src (blk src k)) e):=by unfold wordE;rw [h]
   have hy:=jf hle hwd;obtain ⟨y,hye⟩:∃ y,y=src.extract (blk src (blk src k)) e:=⟨_,rfl⟩;rw [<-hye] at hwd hy;have e1:operE src k r (du L rn nt x)=.ok (e,{ r with wanted:=r.wanted++[(r.aG.length,e - y.size)] },{ du L rn nt x with label:=y }):=by
    unfold operE;rw [show (du L rn nt x).what=x from rfl,Nr n1,Nr n2,Nr n3,Ny hx,hw,Ny rfl,hwd]
    rfl
   rw [e1];refine gD (Kk (pl:=e - y.size) hw (ui h) hye.symm (by omega) (by omega) (by rw [hr.len];exact hcs)) ?_;rintro cv σ' cv' hz hl ⟨⟨v,rfl⟩,rfl⟩;have rz:=dq (fs:=σ.fs) hz L rn nt x;obtain ⟨x0,x1,x2,x3,x4,x5,x6,x7,x8,x9,x10,x11,x12,x13,x14,x15,x16,x17,x18,x19,x20,x21,x22,rfl⟩:=dS hl.len;exact ⟨rfl,⟨rfl,rz.c5,rz.c6,rz.c7,rz.c8,rz.c9,rz.c10,rz.c11,rz.c13,rz.c14,rz.c15,rz.c16,rz.c17,rz.c18,rz.c19,rz.c20,rz.c21,rz.c22⟩,fun hr=>⟨hr.len,hr.cs,⟨hr.nm.ns,hr.nm.nm⟩,hr.rg,hr.bs,hr.ls,by show σ.gs++_=r.wanted++_;rw [hr.gs,hr.len]⟩,⟨rfl,rfl,fun _ h=>h⟩⟩
theorem rS (hx:x=97\/x=105\/x=99):gK w0 96 b src k σ r (operE src k r (du L rn nt x)):=by
 intro w cb cv hs hb hl hz hf hsl;refine (text_o hs hb hl hf).mono ?_;intro q w1 hq
 have e:operE src k r (du L rn nt x)=(match textE src (src.size+1) (blk src k) [] with
   | .error pl=>.error (4,pl)
   | .ok (e,l)=>.ok (e,r,{ du L rn nt x with text:=⟨src.extract (blk src k) e,l⟩ })):=by
  unfold operE;rw [show (du L rn nt x).what=x from rfl,Nr (by omega),Nr (by omega),Nr (by omega),Nr (by omega),Ny hx]
  cases textE src (src.size+1) (blk src k) [] <;> rfl
 rw [e]
 cases ht:textE src (src.size+1) (blk src k) [] with
 | error pl=>
  rw [ht] at hq;exact hq
 | ok p=>
  obtain ⟨e1,l⟩:=p;rw [ht] at hq;obtain ⟨rfl,s1,b1⟩:=hq;refine ⟨rfl,σ,_,s1,b1,(hl.set 9 rfl).set 10 rfl,hf,?_,?_,fun h=>h,⟨rfl,rfl,fun _ h=>h⟩⟩
  .obtain ⟨x0,x1,x2,x3,x4,x5,x6,x7,x8,x9,x10,x11,x12,x13,x14,x15,x16,x17,x18,x19,x20,x21,x22,rfl⟩:=dS hl.len
   rfl
  .have rz:=dq (fs:=σ.fs) hz L rn nt x;obtain ⟨x0,x1,x2,x3,x4,x5,x6,x7,x8,x9,x10,x11,x12,x13,x14,x15,x16,x17,x18,x19,x20,x21,x22,rfl⟩:=dS hl.len;exact ⟨rz.c4,rz.c5,rz.c6,rz.c7,rz.c8,rfl,rfl,rz.c11,rz.c13,rz.c14,rz.c15,rz.c16,rz.c17,rz.c18,rz.c19,rz.c20,rz.c21,rz.c22⟩
theorem MU {w w1:World} {cb e:Nat} {cv:List Value} {c c2:aV} {r2:RdS} (hf:FileO w0 b cb src σ cv (e,r2,c2) w1) (hl:Cv cv) {σ0:Sst} (hr:jc σ0 r->jc σ r) (hx:fU σ.fs cv c) (hk:FlOk src k e r r2 c c2) {cv0:List Value} (h4:cv.take 4=cv0.take 4) (hfs:Nf σ0 σ):OperR w0 b cb src σ0 cv0 r (e,r2,c2) w1:=by
 obtain ⟨σ',s1,b1,f1,hn⟩:=hf;have e1:σ'.fs=σ.fs:=(congrArg Sst.fs hn.2.choose_spec).trans rfl;refine ⟨σ',_,s1,b1,FlC.len hl,f1,?_,?_,?_,⟨(congrArg Sst.quiet hn.2.choose_spec).trans hfs.qt,(congrArg (fun q:Sst=>q.cs.length) hn.2.choose_spec).trans hfs.cl,fun f hf=>by rw [e1];exact hfs.fx f hf⟩⟩
 .rw [<-h4];obtain ⟨x0,x1,x2,x3,x4,x5,x6,x7,x8,x9,x10,x11,x12,x13,x14,x15,x16,x17,x18,x19,x20,x21,x22,rfl⟩:=dS hl.len
  rfl
 .rw [e1];exact hx.flc hl hk.ceq
 .intro h0;have:=(hr h0).names hn;rw [hk.req];exact this
theorem Kh (hr:Mp σ r) (hk:k<=src.size):gK w0 100 b src k σ r (operE src k r (du L rn nt 119)):=by
 intro w cb cv hs hb hl hz hf hsl;have rz:=dq (fs:=σ.fs) hz L rn nt 119;have hcc:FlC cv (du L rn nt 119)=cv:=BU hl rz.c6 rz.c7 rz.c16 rz.c17 rz.c18;have e:operE src k r (du L rn nt 119)=fileE src k r (du L rn nt 119):=by
  unfold operE;rw [show (du L rn nt 119).what=119 from rfl,Nr (by omega),Nr (by omega),Nr (by omega),Nr (by omega),Nr (by omega),Nr (by omega),Nr (by omega),Nr (by omega),Ny rfl]
 rw [e];refine (MV (c:=du L rn nt 119) (r:=r) hs (by rw [hcc];exact hb) hl hf hsl hr.nm).mono ?_;intro q w1 hq
 cases hfe:fileE src k r (du L rn nt 119) with
 | error p=>rw [hfe] at hq;exact hq
 | ok p=>
  obtain ⟨e1,r2,c2⟩:=p;rw [hfe] at hq;exact ⟨hq.1,MU (w:=w) hq.2 hl (fun h=>h) rz (tI hk hfe).1 rfl Nf.Fy⟩
end
