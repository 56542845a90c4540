import Derived.Test.YtiahkfoojjpaaaaGreatDoorU40
set_option maxRecDepth 100000
set_option maxHeartbeats 16000000
set_option linter.all false
namespace Go.Proofs.YtiahkfoojjpaaaaGreatDoor
open Go.RowKit
theorem D5 (L:List AdrS) (a:AdrS):adrsT (L++[a])=adrsT L++((if L.length=0 then [] else [44])++a.txt.data.toList):=by
 cases L with
 | nil=>simp [adrsT]
 | cons b l=>simp [adrsT]
theorem Jf {a:AdrS} (h1:∀ n,a=.num n->n<=1000000) (h2:∀ q,a=.pat q->q.txt.size<=2000):a.txt.size<=2002:=by
 cases a with
 | num n=>
  show (ba (Lib.decDigits n)).size<=_;rw [ay];have:=iq 7 n (by have:=h1 n rfl;omega);omega
 | last=>exact (by decide:(1:Nat)<=2002)
 | pat q=>
  have:=h2 q rfl;show (⟨#[47]⟩++q.txt++⟨#[47]⟩:ByteArray).size<=2002;rw [NU,NU];show 1+q.txt.size+1<=2002;omega
section
variable {w w0 wx:World} {lo hi sb b:Nat} {σ:Sst} {S:eF} {ca co:Nat} {cv:List Value} {c:aV} {fs:List (Nat×Obj)} {l:List UInt8}
theorem MH (hs:ye c) (hn:c.number<=1000000) (ht:c.status<=255):c.opr.size<=10000:=by
 have z1:=hs.lb;have z2:=hs.nm;have z3:=hs.tx;have z4:=hs.nw;have z5:=hs.yf;have z6:=hs.yt;have a1:=qP c.label;have a2:=qP c.name;have a3:=qP c.text.src;have a4:=qP (GW c.status);have a5:=rY c.status (by omega);have a6:=MT hn z2;have a7:=hs.pt;unfold aV.opr;have s1:(⟨#[47]⟩:ByteArray).size=1:=rfl;have s0:noB.size=0:=rfl;split
 .omega
 split
 .omega
 split
 .omega
 split
 .omega
 split
 .cases e:c.pat with
  | none=>
   simp only [NU,s1];omega
  | some q=>
   have:=a7 q e;simp only [NU,s1];omega
 split
 .simp only [NU,s1];omega
 .omega
structure Bd (w0:World) (b:Nat) (l:List UInt8) (w:World):Prop where
 bd:Bdr w0.heap.size b l w
 kp:Kp [] w0 w
theorem Bd.aj {w w':World} (h:Bd w0 b l w) (k:Kp [] w w'):Bd w0 b l w':=⟨h.bd.aj k,h.kp.trans k⟩
theorem Bd.byte {w:World} (h:Bd w0 b l w) (hl:l.length<=100000000000) (c:UInt8):Calls Tryz.prog 54 #[.pointer (some ⟨b,0,none⟩),.int .u8 (c.toNat:Int)] w fun e w'=>e=.returned .nilIface/\Bd w0 b (l++[c]) w':=
 (yo c h.bd hl h.kp.size).mono fun _ _ q=>⟨q.1,q.2.1,tp h.kp q.2.2⟩
theorem Bd.str {w:World} (h:Bd w0 b l w) (s:ByteArray) (hl:l.length+s.size<=100000000000):Calls Tryz.prog 36 #[.pointer (some ⟨b,0,none⟩),.string s] w fun e w'=>e=.returned (.tuple #[.int .i64 s.size,.nilIface])/\Bd w0 b (l++s.data.toList) w':=
 (rf s h.bd hl h.kp.size).mono fun _ _ q=>⟨q.1,q.2.1,tp h.kp q.2.2⟩
theorem tell_c (h:CmdC fs w0 ca co c) (hs:ye c) (hp:Pow w0) (hk:fj lo hi c) (hx:c.what < 256) (hb:Bd w0 b l w) (hl:l.length<=90000000000) :
  Calls Tryz.prog 37 #[.pointer (some ⟨ca,co,none⟩),.pointer (some ⟨b,0,none⟩)] w fun r w'=>r=.returned (.tuple #[])/\Bd w0 b (l++c.txt) w':=by
 obtain ⟨cv,hI,hc⟩:=h.cell;obtain ⟨v0,e0,hA⟩:=hI.c0;have c0:w0.cell? ⟨ca,co,none⟩=some v0:=hc 0 _ e0;have c2:=hc 2 _ hI.c2;have c3:=hc 3 _ hI.c3;have hbl:=h.blk;have hal:=hk.adr;have HOP:Hid (∀ wx,Kp [] w0 wx->Calls Tryz.prog 56 #[.pointer (some ⟨ca,co,none⟩)] wx fun r w'=>r=.returned (.string c.opr)/\Kp [] wx w'):=hid (fun wx kx=>Gy (h.aj kx) hs (hp.aj kx) hk.nb hk.st hx hk.sp);obtain ⟨A,n,cc,rfl,hnl,hat⟩:∃ A n cc,v0=.slice A n cc/\n=c.dV.length/\∀ (k:Nat) (a:AdrS),c.dV[k]? = some a->∃ p,A=some ⟨p,0,none⟩/\∀ wx,Kp [] w0 wx->Calls Tryz.prog 55 #[.pointer (some ⟨p,k * 4,none⟩)] wx fun r w'=>r=.returned (.string a.txt)/\Kp [] wx w':=by
  rcases hA with ⟨e,rfl⟩ | ⟨p,cc,cells,rfl,hm,hcs⟩
  .have:c.dV=[]:=List.map_eq_nil_iff.1 e;exact ⟨none,0,0,rfl,by rw [this];rfl,fun k a h=>by rw [this] at h;cases h⟩
  .refine ⟨_,_,cc,rfl,N9 _,fun k a ha=>⟨p,rfl,fun wx kx=>?_⟩⟩;obtain ⟨va,hva,hce⟩:=hcs k a.A (by rw [N6,ha];rfl);have hh:=(kx.block p (aM (h.fx _ hm)) (by simp)).trans (h.fx _ hm);have hm2:=NM ha;refine adrT_t a hva (fun j u hu=>?_) (hp.aj kx) (fun n e=>hk.Jv n (by rw [<-e];exact hm2)) (fun q e=>hs.ap q (by rw [<-e];exact hm2));have:=hce j u hu;simp only [World.cell?,hh];rw [Nat.mul_comm];simpa using this
 have HAT:=hid hat;have HNL:=hid hnl;have HTL:Hid (∀ (k:Nat) (a:AdrS),c.dV[k]? = some a->a.txt.size<=2002):=hid (fun k a ha=>Jf (fun n e=>hk.Jv n (by rw [<-e];exact NM ha)) (fun q e=>hs.ap q (by rw [<-e];exact NM ha)));have zop:=MH hs hk.nb hk.st;have hn2:n<=2:=by omega
 have HK:Hid (∀ w1,Kp [] w0 w1->w1.cell? ⟨ca,co,none⟩=some (.slice A n cc)/\w1.cell? ⟨ca,co+2,none⟩=some (.bool c.neg)/\w1.cell? ⟨ca,co+3,none⟩=some (.int .u8 c.what)):=hid (fun w1 k1=>⟨(k1.cell (p:=⟨ca,co,none⟩) hbl (by simp)).trans c0,(k1.cell (p:=⟨ca,co+2,none⟩) hbl (by simp)).trans c2,(k1.cell (p:=⟨ca,co+3,none⟩) hbl (by simp)).trans c3⟩);have HB:=hid hb;have HTX:Hid (c.txt=adrsT c.dV++((if c.neg then [33] else [])++(UInt8.ofNat c.what::(c.opr.data.toList++[10])))):=hid rfl;obtain ⟨OP,hOP⟩:∃ OP,OP=c.opr:=⟨_,rfl⟩;rw [<-hOP] at HOP HTX zop;obtain ⟨ng,hng⟩:∃ ng,ng=c.neg:=⟨_,rfl⟩;rw [<-hng] at HK HTX;obtain ⟨x,hxx⟩:∃ x:UInt8,x=UInt8.ofNat c.what:=⟨_,rfl⟩;have ex:c.what=x.toNat:=by
  rw [hxx];exact (Om hx).symm
 rw [<-hxx] at HTX;rw [ex] at HK;obtain ⟨d0,_⟩:=HK.out w hb.kp;clear h hs hp hk hx hb hI hc e0 hA c0 c2 c3 hbl hat hnl hOP hng hxx ex;go_enter Tryz.func37,Tryz.ntmps37
 go_wp2_with fail;go_loopw [10,4] (fun v _ wr=>∃ k:Nat,k<=n/\v=.int .i64 k/\Hid (Bd w0 b (l++adrsT (c.dV.take k)) wr)/\Hid ((adrsT (c.dV.take k)).length<=k * 2003)) (fun v _ _=>3 - (intOf v).toNat)
 case atStart=>exact ⟨0,by omega,rfl,hid (by simpa [adrsT] using HB.out),hid (by simp [adrsT])⟩
 case round=>
  obtain ⟨k,hk,rfl,HBK,HLK⟩:=hrel;by_cases hkn:k < n
  .obtain ⟨a,ha⟩:∃ a,c.dV[k]? = some a:=⟨_,Nv (by rw [<-HNL.out];exact hkn)⟩;obtain ⟨p,rfl,hca⟩:=HAT.out k a ha;have HCA:=hid hca;have hz:=HTL.out k a ha
   have HSN:Hid (adrsT (c.dV.take (k+1))=adrsT (c.dV.take k)++((if k=0 then [] else [44])++a.txt.data.toList)):=hid (by
    rw [OU,ha,Pp,D5,N3,show min k c.dV.length=k by have:=HNL.out;omega])
   obtain ⟨P,hP⟩:∃ P,P=l++adrsT (c.dV.take k):=⟨_,rfl⟩;have hPl:P.length<=90000010000:=by
    rw [hP,Nu];have:=HLK.out;omega
   have HAL:Hid (a.txt.data.toList.length=a.txt.size):=hid Oo;rw [<-hP] at HBK;have HPP:=hid hP;clear hca ha hP;obtain ⟨T,hT⟩:∃ T,T=a.txt:=⟨_,rfl⟩;rw [<-hT] at HCA hz HSN HAL;clear hT;obtain ⟨k1,hk1⟩:∃ k1:Nat,(k:Int)+1=(k1:Int):=⟨k+1,by omega⟩;have wk:=aa k1 (by omega);by_cases hk0:k=0
   .subst hk0;have HCA1:=hid (HCA.out wr HBK.out.kp);obtain ⟨e0,_⟩:=HK.out wr HBK.out.kp;go_wp2_with fail;refine HCA1.out.mono ?_;rintro r w1 ⟨rfl,q1⟩;have HS1:=hid ((HBK.out.aj q1).str T (by omega));go_wp2_with fail;refine HS1.out.mono ?_;rintro r w2 ⟨rfl,B2⟩;have HB2:=hid B2;clear B2 q1;go_wp2_with fail;go_round
    case rel=>
     have e1:k1=0+1:=by omega
     subst e1;refine ⟨0+1,by omega,by trivial,hid ?_,hid ?_⟩
     .rw [HSN.out,Ny trivial,Ox,<-NP,<-HPP.out];exact HB2.out
     .rw [HSN.out,Ny trivial,Ox,Nu,HAL.out];have:=HLK.out;omega
    case measure=>simp [intOf]
   .have hk0':(0:Int) < (k:Int):=by omega
    have HBY:=hid (HBK.out.byte (by omega) 44);obtain ⟨e0,_⟩:=HK.out wr HBK.out.kp;go_wp2_with fail;refine HBY.out.mono ?_;rintro r w1 ⟨rfl,B1⟩;obtain ⟨e1,_⟩:=HK.out w1 B1.kp;have HCA1:=hid (HCA.out w1 B1.kp);have HB1:=hid B1;clear B1 HBY;go_wp2_with fail;refine HCA1.out.mono ?_;rintro r w2 ⟨rfl,q1⟩;have HS1:=hid ((HB1.out.aj q1).str T (by rw [Nu,NQ];omega));go_wp2_with fail;refine HS1.out.mono ?_;rintro r w3 ⟨rfl,B2⟩;have HB2:=hid B2;clear B2 q1;go_wp2_with fail;go_round
    case rel=>
     have e1:k1=k+1:=by omega
     subst e1;refine ⟨k+1,by omega,by trivial,hid ?_,hid ?_⟩
     .rw [HSN.out,Nr hk0,<-NP,<-NP,<-HPP.out];exact HB2.out
     .rw [HSN.out,Nr hk0,Nu,Nu,HAL.out,NQ];have:=HLK.out;omega
    case measure=>simp [intOf];omega
  .have hkk:k=n:=by omega
   subst hkk;have HAL:Hid (adrsT (c.dV.take k)=adrsT c.dV):=hid (by rw [HNL.out,Oj]);rw [HAL.out] at HBK HLK;obtain ⟨_,e2,e3⟩:=HK.out wr HBK.out.kp;obtain ⟨P,hP⟩:∃ P,P=l++adrsT c.dV:=⟨_,rfl⟩;have hPl:P.length<=90000010000:=by
    rw [hP,Nu];have:=HLK.out;omega
   rw [<-hP] at HBK;have HPP:=hid hP;have HOL:Hid (OP.data.toList.length=OP.size):=hid Oo;clear hP;obtain ⟨NG,hNG⟩:∃ NG:List UInt8,NG=if ng then [33] else []:=⟨_,rfl⟩;have hNl:NG.length<=1:=by rw [hNG];split <;> simp
   rw [<-hNG] at HTX;have HNG:=hid hNG;clear hNG;go_upto_if 30 with fail
   go_cut [32] from 31 (fun _ wx=>Hid (Bd w0 b (P++NG) wx))
   case first=>
    cases ng with
    | true=>
     have HBY:=hid (HBK.out.byte (by omega) 33);go_wp2_with fail;refine HBY.out.mono ?_;rintro r w1 ⟨rfl,B1⟩;have HB1:=hid B1;clear B1;go_wp2_with fail;go_meet
     case rel=>exact hid (by rw [HNG.out];exact HB1.out)
    | false=>
     go_wp2_with fail;go_meet
     case rel=>exact hid (by rw [HNG.out];simpa using HBK.out)
   case rest=>
    obtain ⟨_,_,f3⟩:=HK.out wc hcut.out.kp;have HBX:=hid (hcut.out.byte (by rw [Nu];omega) x);clear hcut;go_wp2_with fail;refine HBX.out.mono ?_;rintro r w2 ⟨rfl,B2⟩;have HO2:=hid (HOP.out w2 B2.kp);have HB2:=hid B2;clear B2 HBX;go_wp2_with fail;refine HO2.out.mono ?_;rintro r w3 ⟨rfl,q3⟩;have HS3:=hid ((HB2.out.aj q3).str OP (by simp only [Nu,NQ];omega));go_wp2_with fail;refine HS3.out.mono ?_;rintro r w4 ⟨rfl,B4⟩;have HB4:=hid (B4.byte (by simp only [Nu,NQ,HOL.out];omega) 10);clear B4;go_wp2_with fail;refine HB4.out.mono ?_;rintro r w5 ⟨rfl,B5⟩;have HB5:=hid B5;clear B5;go_wp2_with fail;go_end0;refine ⟨rfl,?_⟩;have e:l++c.txt=P++NG++[x]++OP.data.toList++[10]:=by rw [HTX.out,HPP.out];simp
    rw [e];exact HB5.out
end
section
variable {w0 w:World} {b k:Nat} {src:ByteArray} {σ:Sst} {r:RdS}
def Mq (r1 r2:RdS) (c:aV) (σ:Sst) (cv:List Value) (σ':Sst) (cv':List Value):Prop:=cv'.take 4=cv.take 4/\fU σ'.fs cv' c/\(jc σ r1->jc σ' r2)/\Nf σ σ'
theorem gK.at_ {f e:Nat} {r2:RdS} {c:aV} (h:gK w0 f b src k σ r (.ok (e,r2,c))):Cs w0 f b src k e σ (Mq r r2 c):=by
 intro w cb cv hs hb hl hz hf hsl;refine (h w cb cv hs hb hl hz hf hsl).mono ?_;rintro q w1 ⟨rfl,σ',cv',s1,b1,l1,f1,x1,x2,x3,x4⟩;exact ⟨σ',cv',rfl,s1,b1,l1,f1,x1,x2,x3,x4⟩
theorem gK.fails {f E pl:Nat} (h:gK w0 f b src k σ r (.error (E,pl))):OpF w0 f b src k σ E pl:=by
 intro w cb cv hs hb hl hz hf hsl;refine (h w cb cv hs hb hl hz hf hsl).mono ?_;rintro q w1 ⟨rfl,hk⟩;exact ⟨rfl,hk⟩
theorem Ev {cv cv':List Value} (h:cv'.take 4=cv.take 4) {j:Nat} (hj:j < 4):cv'[j]? = cv[j]?:=by
 have:=congrArg (fun l=>l[j]?) h;simpa [Ov,hj] using this
def CmdO (w0:World) (b:Nat) (src:ByteArray) (σ:Sst) (q:Nat×RdS) (w':World):Prop:=∃ σ',Sr w0 w' b src q.1 σ'/\jc σ' q.2/\σ'.quiet=σ.quiet
theorem Ch {w':World} {k5:Nat} {L:List AdrS} {nt:Bool} {x:Nat} {r1 r2:RdS} {c:aV} (h:Ax w0 w' b src k5 σ (L.map AdrS.A) nt x (Mq r1 r2 c)) (hr:jc σ r) (h1:r1=if L.length=2 then { r with ranges:=r.ranges+1 } else r)
  (ca:c.dV=L) (cr:c.range=if L.length=2 then r.ranges else 0) (cn:c.neg=nt) (cw:c.what=x):CmdO w0 b src σ (k5,{ r2 with aG:=r2.aG++[c] }) w':=by
 obtain ⟨A,cc,fs,σ',cv',v',hA,hfs,⟨h4,hrest,hrel,hon⟩,s'⟩:=h;rw [N9] at hA h4 hrel hon;have hS:jc { σ with ranges:=if L.length=2 then σ.ranges+1 else σ.ranges,fs:=fs } r1:=by
  have q:=hr.mono hfs;rw [h1];by_cases h2:L.length=2
  .rw [Ny h2,Ny h2];exact ⟨q.len,q.cs,⟨q.nm.ns,q.nm.nm⟩,by show σ.ranges+1=r.ranges+1;rw [hr.rg],q.bs,q.ls,q.gs⟩
  .rw [Nr h2,Nr h2];exact ⟨q.len,q.cs,⟨q.nm.ns,q.nm.nm⟩,q.rg,q.bs,q.ls,q.gs⟩
 have hS':=hrel hS;refine ⟨_,s',⟨?_,?_,⟨hS'.nm.ns,hS'.nm.nm⟩,hS'.rg,hS'.bs,hS'.ls,hS'.gs⟩,hon.qt⟩
 .show (σ'.cs++[cv']).length=(r2.aG++[c]).length;rw [Nu,Nu,hS'.len]
  rfl
 .intro i d dc q1 q2;replace q1:(σ'.cs++[cv'])[i]? = some d:=q1;replace q2:(r2.aG++[c])[i]? = some dc:=q2;by_cases hi:i < σ'.cs.length
  .rw [Ob hi] at q1;rw [Ob (by rw [<-hS'.len];exact hi)] at q2;exact hS'.cs i d dc q1 q2
  .have hi':i=σ'.cs.length:=by
    have:=(List.getElem?_eq_some_iff.1 q1).1;simp at this;omega
   subst hi';rw [List.getElem?_concat_length] at q1;rw [hS'.len,List.getElem?_concat_length] at q2;injection q1 with q1;injection q2 with q2;subst q1 q2;refine ⟨⟨.slice A L.length cc,(Ev h4 (by omega)).trans rfl,by rw [ca];exact hA.mono hon.fx⟩,(Ev h4 (by omega)).trans ?_,(Ev h4 (by omega)).trans (by rw [cn];rfl),(Ev h4 (by omega)).trans (by rw [cw];rfl),hrest⟩;rw [cr];by_cases h2:L.length=2
   .rw [Ny h2,Ny h2,<-hr.rg]
    rfl
   .rw [Nr h2,Nr h2]
    rfl
theorem IA (hs:Sr w0 w b src k σ) (hw0:Nm w0) (hr:jc σ r) (hk:yj r k) :
  Calls Tryz.prog 105 #[.pointer (some ⟨b,0,none⟩)] w (OpO (cmdE src k r) w0 (CmdO w0 b src σ)):=by
 have hsm:=hs.cur.small;have hle:=hs.cur.le;have hn:σ.cs.length<=2000:=by rw [hr.len];have:=hk.cl;omega
 have hrg:σ.ranges<=2000:=by rw [hr.rg];have:=hk.rl;omega
 have hsl:Small σ 2000:=⟨by rw [hr.nm.ns];have:=hk.nl;omega,by rw [hr.bs];have:=hk.b8;omega,by rw [hr.gs];have:=hk.wl;omega⟩;unfold cmdE
 cases hA:adrsE src k with
 | error q=>
  obtain ⟨E,pl⟩:=q;exact IC (P:=fun _=>True) (fun w σ hs=>Ak hs hw0 hA) w σ hs hn hrg hsl trivial
 | ok q=>
  obtain ⟨k1,L⟩:=q;have hL:=adrsE_A hsm hle hA;have hLe:=Cn hsm hle hA;have hb1:=eE hLe.2.1;dsimp only;generalize hnt:saw src (blk src k1) 33=nt;have hN:(nt=false/\saw src (blk src k1) 33=false/\(if nt=true then blk src (blk src k1+1) else blk src k1)=blk src k1)\/(nt=true/\saw src (blk src k1) 33=true/\(if nt=true then blk src (blk src k1+1) else blk src k1)=blk src (blk src k1+1)):=by
   cases nt
   .exact .inl ⟨rfl,hnt,rfl⟩
   .exact .inr ⟨rfl,hnt,rfl⟩
  have h3s:(if nt=true then blk src (blk src k1+1) else blk src k1)<=src.size:=by
   cases nt
   .exact hb1
   .have:=aK hnt;exact eE (by omega)
  generalize (if nt=true then blk src (blk src k1+1) else blk src k1)=k3 at hN h3s ⊢;by_cases h3:k3 < src.size
  .rw [dif_pos h3];generalize hx:(src[k3]'h3).toNat=x
   cases hw:jg.contains x
   .rw [Ny rfl];exact jz (P:=fun _=>True) hw0 hL hN (fun σ _ r fs=>Ek h3 hx (nJ x _ 0 0 (Gx hw))) w σ hs hn hrg hsl trivial
   .rw [Nr (by simp)];generalize hr1:(if L.length=2 then { r with ranges:=r.ranges+1 } else r)=r1;have e1:r1.aG=r.aG/\r1.names=r.names/\r1.blocks=r.blocks/\r1.labels=r.labels/\r1.wanted=r.wanted:=by
     rw [<-hr1];split <;> exact ⟨rfl,rfl,rfl,rfl,rfl⟩
    generalize hrn:(if L.length=2 then r.ranges else 0)=rn;obtain ⟨f,i,ht,hce,hop⟩:=oper_g (r:=r1) (L:=L) (rn:=rn) (nt:=nt) (b:=b) (k:=k3+1) hw0 hw (by omega) (by omega) hsm (by rw [e1.2.2.1];exact hk.b8) (by rw [e1.1];have:=hk.cl;omega) (by rw [e1.1,e1.2.2.1];exact hk.bl);by_cases hbad:(x=125\/x=58)/\(nt=true\/L≠[])
    .rw [Ny hbad];refine jz (P:=fun _=>True) hw0 hL hN (fun σ _ r fs=>El h3 hx ht hbad.1 (hbad.2.imp_right fun q=>?_)) w σ hs hn hrg hsl trivial;rw [N9];exact List.length_pos_iff.2 q
    .rw [Nr hbad];have hbare:(x=125\/x=58)->L.map AdrS.A=[]/\nt=false:=fun q=>by
      have q2:=not_or.1 (fun q3=>hbad ⟨q,q3⟩);have q4:L=[]:=by
       cases L with
       | nil=>rfl
       | cons a l=>exact absurd (List.cons_ne_nil a l) q2.2
      subst q4;exact ⟨rfl,by simpa using q2.1⟩
     have hW:∀ rr fs,Mp { σ with ranges:=rr,fs:=fs } r1:=fun rr fs=>⟨by rw [e1.1];exact hr.len,⟨by rw [e1.2.1];exact hr.nm.ns,by rw [e1.2.1];exact hr.nm.nm⟩,by rw [e1.2.2.1];exact hr.bs,by rw [e1.2.2.2.1];exact hr.ls,by rw [e1.2.2.2.2];exact hr.gs⟩
     cases ho:operE src (k3+1) r1 (du L rn nt x) with
     | error q=>
      obtain ⟨E,pl⟩:=q;rw [ho] at hop;refine jz (P:=fun σ1=>σ1=σ) hw0 hL hN (fun σ1 hσ1 rr fs=>?_) w σ hs hn hrg hsl rfl;subst hσ1;exact what_op h3 hx ht (fun q=>⟨by rw [(hbare q).1];rfl,(hbare q).2⟩) (hop _ (hW rr fs)).fails hce
     | ok q=>
      obtain ⟨e,r2,c⟩:=q;have hok:=Bo hsm (by omega) ho;rw [ho] at hop;dsimp only;have hR:∀ (σ:Sst) (cv:List Value) (σ':Sst) (cv':List Value),Mq r1 r2 c σ cv σ' cv'->cv'[3]? = cv[3]?/\σ'.cs.length=σ.cs.length:=fun σ cv σ' cv' q=>⟨Ev q.1 (by omega),q.2.2.2.cl⟩
      have hat:∀ rr fs,Cs w0 f b src (k3+1) e { σ with ranges:=rr,fs:=fs } (Mq r1 r2 c):=fun rr fs=>(hop _ (hW rr fs)).at_;by_cases h123:x=123
      .rw [Ny h123];refine (xN hs hw0 hL hN h3 hx ht hbare hat hce hR (.inl ⟨h123,rfl⟩) hn hrg hsl).mono ?_;rintro q w1 ⟨rfl,h⟩;exact ⟨rfl,Ch h hr hr1.symm hok.ca (by rw [hok.cr,<-hrn];rfl) hok.cn hok.cw⟩
      .rw [Nr h123]
       cases hm:gQ src (blk src e)
       .rw [Nr (by simp)];refine IB (P:=fun σ1=>σ1=σ) hw0 hL hN (by unfold saw;rw [dif_pos h3,hx];simp) ht hbare (fun σ1 hσ1 rr fs=>?_) hce hR ⟨h123,hm⟩ w σ hs hn hrg hsl rfl;subst hσ1;exact hat rr fs
       .rw [Ny rfl];refine (xN hs hw0 hL hN h3 hx ht hbare hat hce hR (.inr ⟨h123,hm,rfl⟩) hn hrg hsl).mono ?_;rintro q w1 ⟨rfl,h⟩;exact ⟨rfl,Ch h hr hr1.symm hok.ca (by rw [hok.cr,<-hrn];rfl) hok.cn hok.cw⟩
  .rw [dif_neg h3];exact jz (P:=fun _=>True) hw0 hL hN (fun σ _ r fs=>JC (by omega)) w σ hs hn hrg hsl trivial
end
theorem IE {s:ByteArray}:∀ {n m k:Nat},k<=s.size->s.size < k+n->s.size < k+m->IG s n k=some (Jy s m k)
 | 0,_,_,h,h1,_=>by omega
 | _,0,_,h,_,h2=>by omega
 | n+1,m+1,k,h,h1,h2=>by
  unfold IG Jy;by_cases hk:k < s.size
  .cases h10:saw s k 10
   .simp only [hk,decide_true,Bool.not_false,Bool.and_self,if_true,and_self];exact IE (by omega) (by omega) (by omega)
   .simp [hk]
  .simp [hk]
theorem cmtE_gt {s:ByteArray} {k:Nat} (h:saw s k 35=true):∀ {m:Nat},0 < m->k < Jy s m k
 | m+1,_=>by
  have hk:=aK h;have h10:saw s k 10=false:=jl h (by omega);unfold Jy;rw [Ny ⟨hk,h10⟩];have:=(tO (s:=s) m (k+1)).1;omega
theorem zZ {s:ByteArray}:∀ {n m k:Nat},k<=s.size->s.size+1 < k+n->s.size < k+m->MZ s n k=some (Ci s m k)
 | 0,_,_,h,h1,_=>by omega
 | _,0,_,h,_,h2=>by omega
 | n+1,m+1,k,h,h1,h2=>by
  unfold MZ Ci
  cases h35:saw s k 35
  .simp only [O9,if_false]
   cases hb:(saw s k 10 || saw s k 59 || isB s k)
   .simp only [O9,if_false]
   .simp only [if_true];have hk:k < s.size:=by
     simp only [Pj] at hb;rcases hb with (hb | hb) | hb
     .exact aK hb
     .exact aK hb
     .simp only [isB,Pj] at hb;rcases hb with hb | hb
      .exact aK hb
      .exact aK hb
    exact zZ (by omega) (by omega) (by omega)
  .simp only [if_true];have hc:=cmtE_gt h35 (m:=s.size+1) (by omega);have hl:=(tO (s:=s) (s.size+1) k).2 h;rw [IE h (by omega) (show s.size < k+(s.size+1) by omega)];exact zZ hl (by omega) (by omega)
theorem MY {s:ByteArray} {k:Nat} (h:k<=s.size):MZ s (s.size+2) k=some (Ci s (s.size+1) k):=zZ h (by omega) (by omega)
def stepE (s:ByteArray) (m a:Nat) (r:RdS):Except qX RdS:=
 if a < s.size then
  match cmdE s a r with
  | .error q=>.error q
  | .ok (e,r2)=>cmdsE s m e r2
 else .ok r
theorem qI (s:ByteArray) (m k:Nat) (r:RdS):cmdsE s (m+1) k r=stepE s m (Ci s (s.size+1) k) r:=rfl
def endE (s:ByteArray):Except qX RdS->Except qX RdS
 | .error q=>.error q
 | .ok r=>if r.blocks≠[] then .error (6,s.size) else goalsE r.wanted r
theorem Ip (s:ByteArray) (r:RdS):endE s (.ok r)=if r.blocks≠[] then .error (6,s.size) else goalsE r.wanted r:=rfl
section
variable {w0 w:World} {b k:Nat} {src:ByteArray} {σ:Sst} {r:RdS}
theorem jc.goal {ci n:Nat} {c:List Value} {d:aV} (h:jc σ r) (hc:σ.cs[ci]? = some c) (hd:r.aG[ci]? = some d):jc { σ with cs:=σ.cs.set ci (c.set 5 (.int .i64 (n:Int))) } { r with aG:=r.aG.set ci { d with goal:=n } }:=by
 have hi:ci < σ.cs.length:=(List.getElem?_eq_some_iff.1 hc).1;refine ⟨by simp [h.len],fun j cv c2 h1 h2=>?_,⟨h.nm.ns,h.nm.nm⟩,h.rg,h.bs,h.ls,h.gs⟩;replace h1:(σ.cs.set ci (c.set 5 (.int .i64 (n:Int))))[j]? = some cv:=h1;replace h2:(r.aG.set ci { d with goal:=n })[j]? = some c2:=h2;by_cases hj:ci=j
 .subst hj;rw [NK hi] at h1;rw [NK (by rw [<-h.len];exact hi)] at h2;injection h1 with h1;injection h2 with h2;subst h1 h2;exact (h.cs ci c d hc hd).goal n
 .rw [NL hj] at h1 h2;exact h.cs j cv c2 h1 h2
theorem F6 {ci pl:Nat} {c:List Value} {x:ByteArray} (hs:Sr w0 w b src k σ) (hc:σ.cs[ci]? = some c) (hx:c[4]? = some (.string x)) (hne:(x.toList == [])=true) :
  Calls Tryz.prog 106 #[.pointer (some ⟨b,0,none⟩),.agg #[.int .i64 (ci:Int),.int .i64 (pl:Int)]] w fun r w'=>r=.returned (.tuple #[])/\Sr w0 w' b src k { σ with cs:=σ.cs.set ci (c.set 5 (.int .i64 (σ.cs.length:Int))) }:=by
 have hilt:ci < σ.cs.length:=(List.getElem?_eq_some_iff.1 hc).1;obtain ⟨g,cap,ev⟩:=fq hs.r.o4 (by omega);have ka:=Kp.alloc [] w (.cells #[.int .i64 (ci:Int),.int .i64 (pl:Int)] 164);have BG:=Bl.alloc w [.int .i64 (ci:Int),.int .i64 (pl:Int)] 164;have s1:=hs.aj ka;have HEV:=hid ev;clear hs;go_enter Tryz.func106,Tryz.ntmps106
 go_upto_region 1 with fail
 obtain ⟨gb,hgb⟩:∃ gb,gb=w.heap.size:=⟨_,rfl⟩;obtain ⟨w1,hw1⟩:∃ w1,w1=w.alloc (.cells #[.int .i64 (ci:Int),.int .i64 (pl:Int)] 164):=⟨_,rfl⟩;rw [<-hgb,<-hw1] at BG;rw [<-hw1] at s1;rw [<-hgb,<-hw1];clear hgb hw1 ka;have c4:=s1.c.c4;rw [ev] at c4;have d0:=BG.at_ 0 _ rfl;clear ev;go_quiet (fail);have s2:=s1.aj (Kp.drewN [] w1 nq);obtain ⟨w2,hw2⟩:∃ w2,w2=w1.drewN nq:=⟨_,rfl⟩;rw [<-hw2] at s2 ⊢;clear hw2 s1 BG c4 d0;have d4:=(s2.oO HEV.out hc (j:=4) (by omega)).trans hx;have c4:=s2.c.c4;rw [HEV.out] at c4;obtain ⟨u5,d5⟩:∃ u,w2.cell? ⟨g,ci * 23+5,none⟩=some u:=by
  have hl5:5 < c.length:=by rw [(s2.r.len c (NM hc)).1];omega
  exact ⟨_,(s2.oO HEV.out hc (j:=5) (by omega)).trans (Nv hl5)⟩
 have f5:w2.frozen? ⟨g,ci * 23+5,none⟩=false:=by
  have o4:=s2.r.o4;rw [HEV.out] at o4;exact o4.frozenAt _
 have S4:=hid (s2.Fj (i:=ci) (j:=5) (v:=.int .i64 (σ.cs.length:Int)) HEV.out hc (by omega) rfl);go_wp2_with fail;refine bodyPost_ret (results_none rfl _ _ _) rfl ?_;exact ⟨rfl,S4.out⟩
theorem tD:∀ (gs:List (Nat×Nat)) (j:Nat) (p:Nat×Nat),gs[j]? = some p->(gs.flatMap fun p:Nat×Nat=>[Value.int .i64 (p.1:Int),.int .i64 (p.2:Int)])[j * 2]? = some (.int .i64 (p.1:Int))/\(gs.flatMap fun p:Nat×Nat=>[Value.int .i64 (p.1:Int),.int .i64 (p.2:Int)])[j * 2+1]? = some (.int .i64 (p.2:Int))
 | [],_,_,h=>by cases h
 | q::gs,0,p,h=>by
  injection h with h;subst h;exact ⟨rfl,rfl⟩
 | q::gs,j+1,p,h=>by
  have:=tD gs j p h;rw [show (j+1) * 2=j * 2+1+1 by omega];exact this
theorem DF {x:ByteArray} (h:x.size=0):(x.toList == [])=true:=by
 have:x=ba []:=Ck (Og h);rw [this,ByteArray.toList_eq,dQ]
 rfl
theorem xw {x:ByteArray} (h:x.size≠0):(x.toList == [])=false:=by
 rw [ByteArray.toList_eq,Nz];intro e;exact h (by show x.data.toList.length=0;rw [e];rfl)
def WholeO (w0:World) (b:Nat) (src:ByteArray) (r:RdS) (w':World):Prop:=∃ σ',Sr w0 w' b src src.size σ'/\jc σ' r/\σ'.quiet=qtB src
structure GInv (b:Nat) (src:ByteArray) (gs:List (Nat×Nat)) (vg:Value) (n:Nat) (G:Except qX RdS) (j:Nat) (σ:Sst) (r:RdS):Prop where
 rel:jc σ r
 qt:σ.quiet=qtB src
 hgs:σ.gs=gs
 hvg:σ.vg=vg
 hn:r.aG.length=n
 res:G=goalsE (gs.drop j) r
theorem whole_t (hs:Sr w0 w b src 0 σ) (hw0:Nm w0) (hr:jc σ rd0) :
  Calls Tryz.prog 52 #[.pointer (some ⟨b,0,none⟩)] w (OpO (endE src (cmdsE src (src.size+1) 0 rd0)) w0 (WholeO w0 b src)):=by
 obtain ⟨R,hR⟩:∃ R,R=cmdsE src (src.size+1) 0 rd0:=⟨_,rfl⟩;rw [<-hR];have HR0:=hid (hR.trans (qI _ _ _ _));clear hR;have HW0:=hid hw0;have HB:=hid (MY (s:=src) (k:=0) (NH _));have hk1:Ci src (src.size+1) 0<=src.size:=(ly _ _).2 (NH _);obtain ⟨k1,hk1e⟩:∃ k1,k1=Ci src (src.size+1) 0:=⟨_,rfl⟩;rw [<-hk1e] at HB HR0 hk1;clear hk1e hw0;have HREL:=hid hr;clear hr;have c0:=hs.cur.c0;have c3:=hs.c.c3;have f3:=hs.cur.free 3;have hsm:=hs.cur.small;go_enter Tryz.func52,Tryz.ntmps52
 go_upto_region 0 with fail
 go_cut [2] from 4 (fun _ wx=>wx=w.setCell ⟨b,3,none⟩ (.bool (qtB src)))
 case first=>
  cases hq:(src.toList == [35,110])
  .go_wp2_with (go_at_call 102;refine (zy _ _ _).mono ?_;rintro e w1 ⟨rfl,rfl⟩)
   go_meet
   case rel=>simp [qtB,hq]
  .go_wp2_with fail;go_meet
   case rel=>simp [qtB,hq]
 case rest=>
 subst hcut;have s1:=hs.quiet (qtB src);go_wp2_with fail;refine (xY s1.cur HB.out).mono ?_;rintro q w2 ⟨rfl,h2,m2⟩;have S2:=hid (s1.move m2 h2);have REL2:Hid (jc { σ with quiet:=qtB src } rd0/\yj rd0 k1/\({ σ with quiet:=qtB src }:Sst).quiet=qtB src):=hid ⟨⟨HREL.out.len,HREL.out.cs,⟨HREL.out.nm.ns,HREL.out.nm.nm⟩,HREL.out.rg,HREL.out.bs,HREL.out.ls,HREL.out.gs⟩,uQ.mono (NH _),rfl⟩;clear s1 m2 h2 hs c0 c3 f3;go_wp2_with fail;go_loopw [24] (fun _ wr=>∃ (a m:Nat) (σc:Sst) (r:RdS),a<=src.size/\src.size<=a+m/\Hid (Sr w0 wr b src a σc)/\Hid (jc σc r/\yj r a/\σc.quiet=qtB src)/\Hid (R=stepE src m a r)) (fun _ wr=>3000 - ia wr b)
 case atStart=>exact ⟨k1,src.size,_,rd0,hk1,by omega,S2,hid ⟨REL2.out.1,REL2.out.2.1,rfl⟩,HR0⟩
 case round=>
  clear S2 REL2 HR0;obtain ⟨a,m,σc,r,hal,ham,SC,HX,HN⟩:=hrel;have HAT:=hid (aC SC.out.cur);have hN:=HN.out;unfold stepE at hN;clear HN;by_cases ha:a < src.size
  .rw [Ny ha] at hN;have he:((a:Int) == (src.size:Int))=false:=by simp;omega
   go_wp2_with fail;refine (dk SC.out.cur he).mono ?_;rintro q w3 ⟨rfl,h3,m3⟩;have CT:=IA (SC.out.move m3 h3) HW0.out HX.out.1 HX.out.2.1
   cases hc:cmdE src a r with
   | error q=>
    obtain ⟨E,pl⟩:=q;rw [hc] at CT hN;have HCT:=hid CT;have HN:=hid hN;clear CT hN hc;go_wp2_with fail;refine HCT.out.mono ?_;rintro q w4 ⟨rfl,k4⟩;go_wp2_with fail;refine ⟨rfl,?_⟩;rw [HN.out];exact ⟨rfl,k4⟩
   | ok q=>
    obtain ⟨e,r2⟩:=q;obtain ⟨hok2,hae,hes⟩:=IH hsm hal HX.out.2.1 hc;rw [hc] at CT hN;dsimp only at hN
    match m,ham,hN with
    | 0,ham,_=>omega
    | m+1,ham,hN=>
    have HN:=hid (hN.trans (qI _ _ _ _));have HCT:=hid CT;have HB2:=hid (MY (s:=src) (k:=e) hes);have hb1:=(ly (s:=src) (src.size+1) e).1;have hb2:=(ly (s:=src) (src.size+1) e).2 hes;obtain ⟨k2,hk2⟩:∃ k2,k2=Ci src (src.size+1) e:=⟨_,rfl⟩;rw [<-hk2] at HB2 HN hb1 hb2;have HOK:=hid hok2;clear CT hN hc hk2 hok2;go_wp2_with fail;refine HCT.out.mono ?_;rintro q w4 ⟨rfl,σ',s4,r4,q4⟩;have s4:Sr w0 w4 b src e σ':=s4;have r4:jc σ' r2:=r4;go_wp2_with fail;refine (xY s4.cur HB2.out).mono ?_;rintro q w5 ⟨rfl,h5,m5⟩;have S5:=hid (s4.move m5 h5);have X5:Hid (jc σ' r2/\yj r2 k2/\σ'.quiet=qtB src):=hid ⟨r4,HOK.out.mono hb1,q4.trans HX.out.2.2⟩;clear s4 r4 q4 m5;go_wp2_with fail;go_round
    case rel=>exact ⟨k2,m,σ',r2,hb2,by omega,S5,X5,HN⟩
    case measure=>rw [aC h5,HAT.out];omega
  .rw [Nr ha] at hN;have hae:a=src.size:=by omega
   subst hae;have he:((src.size:Int) == (src.size:Int))=true:=by simp
   have HN:=hid hN;clear hN ha HAT;go_wp2_with fail;refine (dk SC.out.cur he).mono ?_;rintro q w3 ⟨rfl,h3,m3⟩;have S3:=hid (SC.out.move m3 h3);obtain ⟨A8,q8,e8,_,_⟩:=aP S3.out.r.o8;have c8:=S3.out.c.c8;rw [e8,HX.out.1.bs] at c8;clear e8 SC h3 m3 he;by_cases hbs:r.blocks=[]
   case neg=>
    have c1:=S3.out.cur.c1;have hpos:0 < r.blocks.length:=List.length_pos_iff.2 hbs;have hb2:=HX.out.2.1.b8;have HBS:=hid hbs;clear hbs;go_wp2_with fail;refine ⟨rfl,?_⟩;rw [HN.out,Ip,Ny HBS.out];exact ⟨rfl,S3.out.r.kp⟩
   case pos=>
   rw [hbs] at c8;have HE:Hid (endE src R=goalsE r.wanted r):=hid (by rw [HN.out,Ip,Nr (by simp [hbs])]);have hwi:=HX.out.2.1.wi;have hwl:=HX.out.2.1.wl;have HWI:=hid hwi;have INV:Hid (GInv b src r.wanted σc.vg r.aG.length (goalsE r.wanted r) 0 σc r):=hid ⟨HX.out.1,HX.out.2.2,HX.out.1.gs,rfl,rfl,rfl⟩;obtain ⟨A11,q11,e11,_,_⟩:=aP S3.out.r.o11;have c11:=S3.out.c.c11;rw [e11,HX.out.1.gs] at c11;rw [e11,HX.out.1.gs] at INV;obtain ⟨gs,hgs⟩:∃ gs,gs=r.wanted:=⟨_,rfl⟩;rw [<-hgs] at INV c11 HE hwl HWI;obtain ⟨G,hG⟩:∃ G,G=goalsE gs r:=⟨_,rfl⟩;rw [<-hG] at INV HE;obtain ⟨n,hn⟩:∃ n,n=r.aG.length:=⟨_,rfl⟩;rw [<-hn] at INV HWI;have hgl:gs.length<=2000:=by omega
   clear hG hn hgs e11 HX hwi hwl HN hbs;go_wp2_with fail;go_loopw [51] (fun v wr=>∃ (j:Nat) (σd:Sst) (rd:RdS),j<=gs.length/\v=.int .i64 j/\Hid (Sr w0 wr b src src.size σd)/\Hid (GInv b src gs (.slice A11 gs.length q11) n G j σd rd)) (fun v _=>3000 - (intOf v).toNat)
   case atStart=>exact ⟨0,σc,r,NH _,rfl,S3,INV⟩
   case round=>
    clear INV S3 c8 c11;obtain ⟨j,σd,rd,hj,rfl,SD,INV⟩:=hrel;by_cases hjl:j < gs.length
    case neg=>
     have hjn:j=gs.length:=by omega
     subst hjn;go_wp2_with fail;go_end0;rw [HE.out,INV.out.res,Pd];exact ⟨rfl,σd,SD.out,INV.out.rel,INV.out.qt⟩
    case pos=>
    obtain ⟨⟨ci,pl⟩,hp⟩:∃ p,gs[j]? = some p:=⟨_,Nv hjl⟩;have hci:ci < n:=HWI.out (ci,pl) (NM hp);have hgd:gs.drop j=(ci,pl)::gs.drop (j+1):=by
     rw [NY hjl]
     congr 1
     have:=Nv hjl;rw [hp] at this;injection this with this;exact this.symm
    have hG:=INV.out.res;rw [hgd] at hG;obtain ⟨d,hd⟩:∃ d,rd.aG[ci]? = some d:=⟨_,Nv (by rw [INV.out.hn];exact hci)⟩;obtain ⟨cv,hcv⟩:∃ cv,σd.cs[ci]? = some cv:=⟨_,Nv (by rw [INV.out.rel.len,INV.out.hn];exact hci)⟩;have h4:=(INV.out.rel.cs ci cv d hcv hd).rest.c4;unfold goalsE at hG;rw [hd] at hG;dsimp only at hG;obtain ⟨g11,cap,e11⟩:=fq SD.out.r.o11 (by rw [INV.out.hgs];omega);have o11:=SD.out.r.o11;rw [e11,INV.out.hgs] at o11;have p0:wr.cell? ⟨g11,j * 2,none⟩=some (.int .i64 (ci:Int)):=(o11.cellAt (j * 2) (by omega)).trans (tD gs j _ hp).1;have p1:wr.cell? ⟨g11,j * 2+1,none⟩=some (.int .i64 (pl:Int)):=(o11.cellAt (j * 2+1) (by omega)).trans (tD gs j _ hp).2;have hA:A11=some ⟨g11,0,none⟩:=by
     have:=INV.out.hvg;rw [e11] at this;injection this with this;exact this.symm
    subst hA;have ka:=Kp.alloc [] wr (.cells #[.int .i64 (ci:Int),.int .i64 (pl:Int)] 164);have BG:=Bl.alloc wr [.int .i64 (ci:Int),.int .i64 (pl:Int)] 164;have KA:=hid ka;have HC:=hid (And.intro hd (And.intro hcv h4));clear ka o11 e11 hgd hd hcv hp hci h4;by_cases hz:d.label.size=0
    .rw [Ny hz] at hG;have HG:=hid hG;have HZ:=hid (F6 (pl:=pl) (SD.out.aj KA.out) HC.out.2.1 HC.out.2.2 (DF hz));clear hG hz;go_wp2_with fail;refine HZ.out.mono ?_;rintro q w4 ⟨rfl,s4⟩;have S4:=hid s4;clear s4;go_wp2_with fail;go_round
     case rel=>
      refine ⟨j+1,_,_,by omega,rfl,S4,hid ⟨INV.out.rel.goal HC.out.2.1 HC.out.1,INV.out.qt,INV.out.hgs,INV.out.hvg,by simp [INV.out.hn],?_⟩⟩;rw [HG.out,INV.out.rel.len]
     case measure=>simp [intOf];omega
    .rw [Nr hz] at hG
     cases hf:rd.labels.find? (d.label == ·.1) with
     | none=>
      rw [hf] at hG;have hfn:=ji d.label σd.ls 0 0 (by rw [INV.out.rel.ls,tV,hf];rfl);have HG:=hid hG;have HZ:=hid (F8 (pl:=pl) (SD.out.aj KA.out) HC.out.2.1 HC.out.2.2 (xw hz) hfn);clear hG hz hf hfn;go_wp2_with fail;refine HZ.out.mono ?_;rintro q w4 ⟨rfl,k4⟩;go_wp2_with fail;refine ⟨rfl,?_⟩;rw [HE.out,HG.out];exact ⟨rfl,k4⟩
     | some p=>
      obtain ⟨y,n'⟩:=p;rw [hf] at hG;dsimp only at hG;obtain ⟨i',hfn⟩:=gN d.label σd.ls 0 0 y n' (by rw [INV.out.rel.ls];exact hf);have HG:=hid hG;have HZ:=hid (F7 (pl:=pl) (SD.out.aj KA.out) HC.out.2.1 HC.out.2.2 (xw hz) hfn);clear hG hz hf hfn;go_wp2_with fail;refine HZ.out.mono ?_;rintro q w4 ⟨rfl,s4⟩;have S4:=hid s4;clear s4;go_wp2_with fail;go_round
      case rel=>
       refine ⟨j+1,_,_,by omega,rfl,S4,hid ⟨INV.out.rel.goal HC.out.2.1 HC.out.1,INV.out.qt,INV.out.hgs,INV.out.hvg,by simp [INV.out.hn],?_⟩⟩;exact HG.out
      case measure=>simp [intOf];omega
end
