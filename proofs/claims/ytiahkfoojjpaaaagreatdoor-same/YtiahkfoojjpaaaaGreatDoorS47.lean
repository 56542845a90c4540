import Derived.Test.YtiahkfoojjpaaaaGreatDoorS46
set_option maxRecDepth 100000
set_option maxHeartbeats 16000000
set_option linter.all false
namespace Go.Proofs.YtiahkfoojjpaaaaGreatDoor
open Go.RowKit
def plc{α:Type}:Except Nat (Nat×α)->Nat
 | .error p=>p
 | .ok (l,_)=>l
section
variable {s:ByteArray}{k E pl:Nat}
theorem dl{s:ByteArray}{k:Nat}(h:dig s k=true):k<s.size:=(jv h).1
theorem idl{s:ByteArray}{k:Nat}(h:isD s k=true):k<s.size:=(tn h).1
theorem escP_in{bh:ByteArray}(hk:k<=s.size):plc (escP s bh k)<=s.size:=by grind [escP,plc,-> aC]
theorem Ld{br bh:ByteArray}(hk:k<=s.size):plc (zY s br bh k)<=s.size:=by grind [zY,plc,escP_in,-> aC]
theorem NH{f n:Nat}(hk:k<=s.size):plc (lg s f n k)<=s.size:=by
 induction n generalizing k<;>grind [lg,plc]
theorem DL{m:Nat->Bool}(hk:k<=s.size):plc (iE s k m)<=s.size:=by grind [iE,plc,Ld,NH,-> aC]
theorem JO{n:Nat}{m:Nat->Bool}(hk:k<=s.size):plc (ia s n k m)<=s.size:=by
 induction n generalizing k m<;>grind [ia,plc,DL,-> aC]
theorem KO{n:Nat}(hk:k<=s.size):plc (gL s n k)<=s.size:=by grind [gL,plc,DL,JO,-> aC]
theorem Js(hk:k<=s.size):plc (Jt s k)<=s.size:=by grind [Jt,plc,-> dl]
theorem upP_in{a:Nat}(hk:k<=s.size):plc (upP s k a)<=s.size:=by grind [upP,plc,Js]
theorem bndP_in(hk:k<=s.size):plc (O9 s k)<=s.size:=by grind [O9,plc,Js,upP_in,-> aC]
theorem repP_in(hk:k<=s.size):plc (Df s k)<=s.size:=by grind [Df,plc,bndP_in,-> aC]
theorem MW(n:Nat):(∀k g,k<=s.size->plc (lI s n k g)<=s.size)/\(∀k g,k<=s.size->plc (gK s n k g)<=s.size)/\(∀k g,k<=s.size->plc (xP s n k g)<=s.size)/\(∀k g,k<=s.size->plc (jo s n k g)<=s.size)/\(∀k g,k<=s.size->plc (Aq s n k g)<=s.size):=by
 induction n with
 | zero=>grind [lI,gK,xP,jo,Aq,plc]
 | succ n ih=>
  obtain⟨i1,i2,i3,i4,i5⟩:=ih;refine⟨fun k g hk=>?_,fun k g hk=>?_,fun k g hk=>?_,fun k g hk=>?_,fun k g hk=>?_⟩
  .grind [lI,plc,KO,Ld,-> aC]
  .grind [gK,plc,repP_in,-> aC]
  .grind [xP,plc]
  .grind [jo,plc,-> aC]
  .grind [Aq,plc]
theorem MN(hk:k<=s.size)(h:iP s k=.error (E,pl)):pl<=s.size:=by
 have q:=(MW (s:=s) (4*(s.size-k)+4)).2.2.2.2 k 0 hk
 grind [iP,plc]
theorem ptE_er{n:Nat}(hk:k<=s.size)(h:ptE s n k=.error pl):pl<=s.size:=by
 induction n generalizing k<;>grind [ptE]
theorem Be{lo hi f n v:Nat}(h:uM s lo hi f n v k=.error pl):pl<=s.size:=by
 induction n generalizing v k<;>grind [uM,-> idl]
theorem wdE_er{f n:Nat}(hk:k<=s.size)(h:wdE s f n k=.error pl):pl<=s.size:=by
 induction n generalizing k<;>grind [wdE,-> qq]
theorem CG(hk:k<=s.size)(h:dT s k=.error pl):pl<=s.size:=by
 have hb:=dm hk;unfold dT at h
 grind [-> wdE_er]
theorem oN{esc:ByteArray}(hk:k<=s.size)(h:gX s esc k=.error pl):pl<=s.size:=by grind [gX]
theorem Mo{n:Nat}{a:List UInt8}(hk:k<=s.size)(h:fP s n k a=.error pl):pl<=s.size:=by
 induction n generalizing k a<;>grind [fP,-> oN,-> dC]
theorem newE_er{G n:Nat}{a:List UInt8}{hs:List (Nat×Nat)}(hk:k<=s.size)(h:oe s G n k a hs=.error pl):pl<=s.size:=by
 induction n generalizing k a hs<;>grind [oe,-> oN,-> dC,-> lv]
theorem Og{n:Nat}{a:List UInt8}(hk:k<=s.size)(h:gG s n k a=.error pl):pl<=s.size:=by
 induction n generalizing k a<;>grind [gG,-> oN,-> dC]
theorem toE_er{m n:Nat}{a:List UInt8}(hk:k<=s.size)(h:toE s m n k a=.error pl):pl<=s.size:=by
 induction n generalizing k a<;>grind [toE,-> oN,-> dC]
theorem Ja(hk:k<=s.size)(h:oL s k=.error (E,pl)):pl<=s.size:=by
 unfold oL at h;split at h
 .rename_i c;have hc:=aC c;split at h
  .rename_i e;cases h;exact ptE_er (by omega) e
  .rename_i e0 he;have hl:=Di he;have hx:(s.extract 0 (e0-1)).size=e0-1:=by rw[Q8];omega
   split at h
   .rename_i e
    cases h;have:=MN (by omega) e;omega
   .cases h
 .cases h;exact hk
theorem adrE_er(hk:k<=s.size)(h:nV s k=.error (E,pl)):pl<=s.size:=by grind [nV,pZ,-> Be,-> Ja]
theorem Pg(hk:k<=s.size)(h:gH s k=.error (E,pl)):pl<=s.size:=by grind [gH,-> adrE_er,-> aC]
theorem DV{r:RdS}{c:aH}(hk:k<=s.size)(h:gQ s k r c=.error (E,pl)):pl<=s.size:=by grind [gQ,-> CG]
theorem Kb{n:Nat}{r:RdS}{c:aH}(hk:k<=s.size)(h:aP s n k r c=.error (E,pl)):pl<=s.size:=by
 induction n generalizing k c<;>grind [aP,pZ,-> Be,-> gu,-> DV,-> aC]
theorem Nc{r:RdS}{c:aH}(hsz:s.size<=2000)(hk:k<=s.size)(h:aG s k r c=.error (E,pl)):pl<=s.size:=by
 have hb:=dm hk;have hn:∀G,HoOk [] ([]:List UInt8).length G:=fun G=>⟨(fun x hx=>by cases hx),.nil⟩
 grind [aG,pZ,-> CG,-> dB,-> Mo,-> Ja,-> gq,-> newE_er,-> ir,-> Kb,-> Og,-> fF,-> toE_er,-> Be,-> DV,-> aC,dm]
def qO(s:ByteArray)(r:RdS):Prop:=∀p∈r.wanted,p.2<=s.size
theorem DU{e:Nat}{r r2:RdS}{c c2:aH}(h:gQ s k r c=.ok (e,r2,c2)):r2.wanted=r.wanted:=by grind [gQ]
theorem Ka{e n:Nat}{r r2:RdS}{c c2:aH}(h:aP s n k r c=.ok (e,r2,c2)):r2.wanted=r.wanted:=by
 induction n generalizing k c<;>grind [aP,-> DU]
theorem Nb{e:Nat}{r r2:RdS}{c c2:aH}(hk:k<=s.size)(hW:qO s r)(h:aG s k r c=.ok (e,r2,c2)):qO s r2:=by
 have hb:=dm hk
 grind [aG,qO,-> DU,-> Ka,-> dB]
theorem cmdE_er{r:RdS}(hsz:s.size<=2000)(hk:k<=s.size)(h:tI s k r=.error (E,pl)):pl<=s.size:=by
 grind [tI,-> Pg,-> xF,-> Nc,-> jZ,dm,-> aC,OpOkS]
theorem cmdE_wt{e:Nat}{r r2:RdS}(hW:qO s r)(h:tI s k r=.ok (e,r2)):qO s r2:=by
 unfold tI at h;split at h
 .cases h
 .rename_i k1 L hL;dsimp only at h;generalize saw s (blk s k1) 33=nt at h;generalize (if nt=true then blk s (blk s k1+1) else blk s k1)=k3 at h;obtain⟨r1,hr1⟩:∃r1,r1=if L.length=2 then { r with ranges:=r.ranges+1} else r:=⟨_,rfl⟩;have hw1:r1.wanted=r.wanted:=by rw[hr1];split<;>rfl
  rw[<-hr1] at h;split at h
  .split at h
   .cases h
   .split at h
    .cases h
    .split at h
     .cases h
     .rename_i hq;have:=Nb (by omega) (fun p hp=>hW p (by rw[<-hw1];exact hp)) hq;split at h
      .injection h with h;injection h with _ h;rw[<-h];exact this
      .split at h
       .injection h with h;injection h with _ h;rw[<-h];exact this
       .cases h
  .cases h
theorem OQ(hsz:s.size<=2000){n:Nat}{r:RdS}(hk:k<=s.size)(hR:tQ r k)(h:eR s n k r=.error (E,pl)):pl<=s.size:=by
 induction n generalizing k r with
 | zero=>cases h;exact hk
 | succ n ih=>
  have hb:=jG (s:=s) (s.size+1) k;have:=hR.mono hb.1
  grind [eR,-> cmdE_er,-> qG]
theorem OO{rf:RdS}{n:Nat}{r:RdS}(hW:qO s r)(h:eR s n k r=.ok rf):qO s rf:=by
 induction n generalizing k r<;>grind [eR,-> cmdE_wt]
theorem J5{l:List (Nat×Nat)}{r:RdS}(hl:∀p∈l,p.2<=s.size)(h:dE l r=.error (E,pl)):pl<=s.size:=by
 induction l generalizing r<;>grind [dE]
theorem EH(h:lQ s=.error (E,pl)):pl<=s.size:=by
 unfold lQ at h;split at h
 .cases h;exact QG _
 .have hsz:s.size<=2000:=by omega
  split at h
  .rename_i q hq
   cases h;exact OQ hsz (QG _) iQ hq
  .rename_i r hr;split at h
   .cases h;exact QD _
   .split at h
    .rename_i q hq
     cases h;exact J5 (OO (fun p hp=>by cases hp) hr) hq
    .cases h
end
section
variable {s t:ByteArray}{k k0 e:Nat}{l:List UInt8}{r r' r2:RdS}{c c0:aH}
theorem MZ(hk0:k0<=s.size)(h0:c0.what=97\/c0.what=105\/c0.what=99)(q:aG s k0 r c0=.ok (e,r2,c))(hs:lN r r')(h:Rsx t k (c.opr.data.toList++10::l)):∃r2',aG t k r' c0=.ok (k+c.opr.data.toList.length,r2',c)/\lN r2 r2':=by
 unfold aG at q ⊢;rw[Qw (by omega),Qw (by omega),Qw (by omega),Qw (by omega),QB h0] at q ⊢;have hb0:blk s k0<=s.size:=by
  have:=Qh hk0;unfold blk;have key:∀(n k:Nat),k<=s.size->skB s n k<=s.size:=by
   intro n
   induction n with
   | zero=>intro k h;exact h
   | succ n ih=>
    intro k h;rw[skB];split
    .rename_i c;exact ih _ (tp c)
    .exact h
  exact key _ _ hk0
 cases ht:fP s (s.size+1) (blk s k0) [] with
 | error z=>rw[ht] at q;cases q
 | ok z=>
  obtain⟨e1,pl⟩:=z;rw[ht] at q;dsimp only at q;injection q with q;injection q with q1 q2;injection q2 with q2 q3;subst q2 q3;obtain⟨t1,t2,_⟩:=gI hb0 ht;have hz:(s.extract (blk s k0) e1).size=e1-blk s k0:=by rw[Q8];omega
  have ho:({ c0 with text:=⟨s.extract (blk s k0) e1,pl⟩}:aH).opr=apB (s.extract (blk s k0) e1):=by
   unfold aH.opr;rw[Qw (by show ¬(c0.what=58\/c0.what=98\/c0.what=116);omega),Qw (by show ¬c0.what=119;omega),QB h0]
  rw[ho] at h ⊢;by_cases hn:(s.extract (blk s k0) e1).size=0
  .rw[Ci hn] at h ⊢;have h:Rsx t k (10::l):=h;obtain⟨_,_,n3,_⟩:=Ns h;have he:e1=blk s k0:=by omega
   subst he;have hpl:pl=[]:=by
    rw[fP] at ht;split at ht
    .cases hp:gX s Qd (blk s k0) with
     | error p=>rw[hp] at ht;cases ht
     | ok y=>
      obtain⟨l1,u⟩:=y;rw[hp] at ht;dsimp only at ht;exfalso;obtain⟨p1,p2⟩:=MX hp;have:=(gI p2 ht).1;omega
    .injection ht with ht;injection ht with _ ht;exact ht.symm
   subst hpl;rw[lE n3];have e2:fP t (t.size+1) k []=.ok (k,[]):=by
    rw[fP,Qw (by rw[h.saw];simp)]
   rw[e2];dsimp only;rw[show t.extract k k=s.extract (blk s k0) (blk s k0) by rw[MD hn];exact MD (by rw[Q8];omega)];exact⟨r',rfl,hs⟩
  .rw[lJ hn] at h ⊢;rw[QS] at h;have hm:e1=blk s k0+(e1-blk s k0):=by omega
   have h2:Rsx t (k+1) ((s.extract (blk s k0) (blk s k0+(e1-blk s k0))).data.toList++10::l):=by
    rw[<-hm];exact h.next
   have sg:=h2.sg (by omega);have h3:=h.next.app;rw[QK,show k+1+(s.extract (blk s k0) e1).data.size=k+1+(e1-blk s k0) by show k+1+(s.extract (blk s k0) e1).size=_;omega] at h3;have hB:isB t (k+1)=false:=by
    obtain⟨g1,g2,g3⟩:=sg.get (i:=0) (by omega);have:=Qh hk0;unfold isB saw at this ⊢;have g1:blk s k0<s.size:=g1;have g2:k+1<t.size:=g2;rw[dif_pos g1,dif_pos g1] at this;rw[dif_pos g2,dif_pos g2];have g3:s[blk s k0]'g1=t[k+1]'g2:=g3;rw[<-g3];exact this
   rw[xz h hB];have e2:=Mm sg (by rw[h3.saw];rfl) (s.size+1) (t.size+1) 0 [] pl (by omega) (by rw[<-hm];exact ht) (by have:=sg.l2;omega);have e2:fP t (t.size+1) (k+1) []=.ok (k+1+(e1-blk s k0),pl):=e2;rw[e2];dsimp only;have e3:=IA h.next;rw[hz] at e3;rw[e3,QF,QK,show k+1+(e1-blk s k0)=k+((s.extract (blk s k0) e1).data.size+1) by show _=k+((s.extract (blk s k0) e1).size+1);omega];exact⟨r',rfl,hs⟩
theorem orl_q(hk0:k0<=s.size)(h0:c0.what=113)(q:aG s k0 r c0=.ok (e,r2,c))(hs:lN r r')(h:Rsx t k (c.opr.data.toList++10::l)):∃r2',aG t k r' c0=.ok (k+c.opr.data.toList.length,r2',c)/\lN r2 r2':=by
 unfold aG at q ⊢;rw[Qw (by omega),Qw (by omega),Qw (by omega),Qw (by omega),Qw (by omega),Qw (by omega),Qw (by omega),QB h0] at q ⊢
 cases hv:pZ s 0 255 (blk s k0) with
 | error z=>rw[hv] at q;cases q
 | ok z=>
  obtain⟨e1,v⟩:=z;rw[hv] at q;dsimp only at q;injection q with q;injection q with q1 q2;injection q2 with q2 q3;subst q2 q3;have hv255:v<=255:=by
   by_cases hb:blk s k0<=s.size
   .exact(gu hb hv).2.2.1
   .unfold pZ at hv;rw[uM] at hv;split at hv
    .rename_i c;obtain⟨hk,_⟩:=tn c;omega
    .injection hv with hv;injection hv with _ hv;omega
  have ho:({ c0 with status:=v}:aH).opr=apB (uO v):=by
   unfold aH.opr;rw[Qw (by show ¬(c0.what=58\/c0.what=98\/c0.what=116);omega),Qw (by show ¬c0.what=119;omega),Qw (by show ¬(c0.what=97\/c0.what=105\/c0.what=99);omega),QB h0]
  rw[ho] at h ⊢;by_cases hn:v=0
  .subst hn;have hz:(uO 0).size=0:=rfl;rw[Ci hz] at h ⊢;have h:Rsx t k (10::l):=h;obtain⟨_,n2,n3,_⟩:=Ns h;have e2:pZ t 0 255 k=.ok (k,0):=by
    unfold pZ;rw[uM,n2,Qw (by simp)]
   rw[lE n3,e2];exact⟨r',rfl,hs⟩
  .have hnb:(uO v).data.toList=Lib.decDigits v:=by
    unfold uO;rw[Qw hn];simp[ba]
   have hz:(uO v).size≠0:=by
    intro e;obtain⟨d,tl,_,d2⟩:=nR v;have:(uO v).data.toList.length=0:=by rw[QK];exact e
    rw[hnb,d2] at this
    cases this
   rw[lJ hz,hnb] at h ⊢;rw[QS] at h;have h2:=h.next;have h3:=h2.app;have hB:isB t (k+1)=false:=by
    obtain⟨d,tl,d1,d2⟩:=nR v;rw[d2] at h2;have e:(UInt8.ofNat (48+d)).toNat=48+d:=QV (by show 48+d<256;omega);rw[Rsx.isB (l:=tl++10::l) h2,e,Ru,Qz,Qz];omega
   rw[xz h hB,Bg (by omega) (by omega) hv255 h2 (Ns h3).2.1];dsimp only;rw[QF,show k+1+(Lib.decDigits v).length=k+((Lib.decDigits v).length+1) by omega];exact⟨r',rfl,hs⟩
theorem orl_w(hk0:k0<=s.size)(h0:c0.what=119)(q:aG s k0 r c0=.ok (e,r2,c))(hs:lN r r')(h:Rsx t k (c.opr.data.toList++10::l)):∃r2',aG t k r' c0=.ok (k+c.opr.data.toList.length,r2',c)/\lN r2 r2':=by
 unfold aG at q ⊢;rw[Qw (by omega),Qw (by omega),Qw (by omega),Qw (by omega),Qw (by omega),Qw (by omega),Qw (by omega),Qw (by omega),QB h0] at q ⊢;obtain⟨x,w1,w2⟩:=xi q;have hc:c.what=119/\c.name=x:=by
  rcases w2 with⟨i,_,_,rfl⟩|⟨_,_,rfl⟩
  .exact⟨h0,rfl⟩
  .exact⟨h0,rfl⟩
 have ho:c.opr=apB x:=by
  unfold aH.opr;rw[Qw (by omega),QB hc.1,hc.2]
 rw[ho] at h ⊢;exact zw hk0 w1 w2 hs h
theorem orl_y(hk0:k0<=s.size)(h0:c0.what=121)(q:aG s k0 r c0=.ok (e,r2,c))(hs:lN r r')(h:Rsx t k (c.opr.data.toList++10::l)):∃r2',aG t k r' c0=.ok (k+c.opr.data.toList.length,r2',c)/\lN r2 r2':=by
 unfold aG at q ⊢;rw[Qw (by omega),Qw (by omega),Qw (by omega),Qw (by omega),Qw (by omega),Qw (by omega),QB h0] at q ⊢;split at q
 .cases hf:gG s (s.size+1) (k0+1) [] with
  | error z=>rw[hf] at q;cases q
  | ok z=>
   obtain⟨e1,l1⟩:=z;rw[hf] at q;dsimp only at q
   cases ht:toE s l1.length (s.size+1) e1 [] with
   | error z=>rw[ht] at q;cases q
   | ok z=>
    obtain⟨e2,l2⟩:=z;rw[ht] at q;dsimp only at q;injection q with q;injection q with q1 q2;injection q2 with q2 q3;subst q2 q3;obtain⟨f1,f2,_⟩:=fF hf;obtain⟨g1,g2,_⟩:=rF ht (QG _);have ho:({ c0 with jM:=⟨s.extract (k0+1) (e1-1),l1⟩,yto:=⟨s.extract e1 (e2-1),l2⟩}:aH).opr.data.toList=47::((s.extract (k0+1) (e1-1)).data.toList++47::((s.extract e1 (e2-1)).data.toList++[47])):=by
     unfold aH.opr;rw[Qw (by show ¬(c0.what=58\/c0.what=98\/c0.what=116);omega),Qw (by show ¬c0.what=119;omega),Qw (by show ¬(c0.what=97\/c0.what=105\/c0.what=99);omega),Qw (by show ¬c0.what=113;omega),Qw (by show ¬c0.what=115;omega),QB h0];simp
    rw[ho] at h ⊢;rw[QS,QJ,QS,QJ] at h;obtain⟨sA,hA,xA,zA⟩:=uo f1 f2 (Gh hf) h.next;obtain⟨sB,hB,xB,zB⟩:=uo g1 g2 (Ml ht) hA;rw[QB (by rw[h.saw];rfl)];have e3:=Oe sA (s.size+1) (t.size+1) 0 [] l1 (by rw[show k0+1+(e1-(k0+1))=e1 by omega];exact hf) (by have:=sA.l2;omega);have e3:gG t (t.size+1) (k+1) []=.ok (k+1+(e1-(k0+1)),l1):=e3;rw[e3];dsimp only;have e4:=toE_sg sB l1.length (s.size+1) (t.size+1) 0 [] l2 (by rw[show e1+(e2-e1)=e2 by omega];exact ht) (by have:=sB.l2;omega);have e4:toE t l1.length (t.size+1) (k+1+(e1-(k0+1))) []=.ok (k+1+(e1-(k0+1))+(e2-e1),l2):=e4;rw[e4];dsimp only;rw[xA,xB];simp only[QF,Qy,QK,Rk]
    rw[show k+1+(e1-(k0+1))+(e2-e1)=k+((s.extract (k0+1) (e1-1)).data.size+((s.extract e1 (e2-1)).data.size+(0+1)+1)+1) by
     show _=k+((s.extract (k0+1) (e1-1)).size+((s.extract e1 (e2-1)).size+(0+1)+1)+1)
     omega]
    exact⟨r',rfl,hs⟩
 .cases q
end
section
variable {s t:ByteArray}{k k0 e:Nat}{l:List UInt8}{r r' r2:RdS}{c c0:aH}
theorem FlgR.keeps(h:FlgR s r c0 r2 c):c.what=c0.what/\c.pat=c0.pat/\c.new=c0.new/\c.fw=c0.fw/\c.neg=c0.neg:=by
 obtain⟨A,N,P,_,h⟩:=h;rcases h with⟨_,rfl⟩|⟨k0,e,x,_,_,h⟩
 .exact⟨rfl,rfl,rfl,rfl,rfl⟩
 .rcases h with⟨i,_,_,rfl⟩|⟨_,_,rfl⟩
  .exact⟨rfl,rfl,rfl,rfl,rfl⟩
  .exact⟨rfl,rfl,rfl,rfl,rfl⟩
theorem orl_s(hsz:s.size<=2000)(hk0:k0<=s.size)(h0:c0.what=115)(ha:c0.all=false)(hn:c0.number=0)(hp:c0.print=false)(hm:c0.name.size=0)(q:aG s k0 r c0=.ok (e,r2,c))(hs:lN r r')(h:Rsx t k (c.opr.data.toList++10::l)):∃r2',aG t k r' c0=.ok (k+c.opr.data.toList.length,r2',c)/\lN r2 r2':=by
 unfold aG at q ⊢;rw[Qw (by omega),Qw (by omega),Qw (by omega),Qw (by omega),Qw (by omega),QB h0] at q ⊢
 cases hP:oL s k0 with
 | error z=>rw[hP] at q;cases q
 | ok z=>
  obtain⟨e1,p⟩:=z;rw[hP] at q;dsimp only at q
  cases hN:oe s p.G (s.size+1) e1 [] [] with
  | error z=>rw[hN] at q;cases q
  | ok z=>
   obtain⟨e2,pl,ho⟩:=z;rw[hN] at q;dsimp only at q;obtain⟨_,p2,_,_,_⟩:=gq hsz hP;have n1:=Bh hN;have n2:e2<=s.size:=by
    have:=aC (qd hN);omega
   have FR:=iV (c:={ c0 with pat:=some p,new:=⟨s.extract e1 (e2-1),pl⟩,dr:=ho}) n2 (by show c0.number<=_;omega) q;obtain⟨k1,k2,k3,_,_⟩:=FR.keeps;have k1:c.what=115:=k1.trans h0;have k2:c.pat=some p:=k2;have k3:c.new=⟨s.extract e1 (e2-1),pl⟩:=k3;have hopr:c.opr.data.toList=47::(p.txt.data.toList++47::((s.extract e1 (e2-1)).data.toList++47::c.flg.data.toList)):=by
    unfold aH.opr;rw[Qw (by omega),Qw (by omega),Qw (by omega),Qw (by omega),QB k1,k2,k3];simp
   rw[hopr] at h ⊢;rw[QS,QJ,QS,QJ,QS] at h;have hb:=h.next.app.next;rw[QK] at hb;have hb:Rsx t (k+1+p.txt.size+1) ((s.extract e1 (e2-1)).data.toList++47::(c.flg.data.toList++10::l)):=hb;obtain⟨sB,hB,xB,zB⟩:=uo n1 n2 (qd hN) hb;have f1:=Dr hsz hP h;rw[f1];dsimp only;have e4:=newE_sg sB p.G (s.size+1) (t.size+1) 0 [] [] (pl,ho) (by rw[show e1+(e2-e1)=e2 by omega];exact hN) (by have:=sB.l2;omega);have e4:oe t p.G (t.size+1) (k+1+p.txt.size+1) [] []=.ok (k+1+p.txt.size+1+(e2-e1),pl,ho):=e4;rw[e4];dsimp only;rw[xB];have hts:3<=t.size:=by
    have:=hB.le;omega
   obtain⟨r2',q1,q2⟩:=Gi (n:=t.size-3) (c:={ c0 with pat:=some p,new:=⟨s.extract e1 (e2-1),pl⟩,dr:=ho}) ha hn hp hm FR hs hB;rw[show t.size+1=t.size-3+4 by omega,q1];simp only[QF,Qy];refine⟨r2',?_,q2⟩;rw[show p.txt.data.toList.length=p.txt.size from QK,show(s.extract e1 (e2-1)).data.toList.length=(s.extract e1 (e2-1)).size from QK,show k+1+p.txt.size+1+(e2-e1)+c.flg.data.toList.length=k+(p.txt.size+((s.extract e1 (e2-1)).size+(c.flg.data.toList.length+1)+1)+1) by omega]
theorem Ji{L:List eE}{rn x:Nat}{nt:Bool}(hsz:s.size<=2000)(hk0:k0<=s.size)(hx:c0=dH L rn nt x)(q:aG s k0 r c0=.ok (e,r2,c))(hs:lN r r')(h:Rsx t k (c.opr.data.toList++10::l)):∃r2',aG t k r' c0=.ok (k+c.opr.data.toList.length,r2',c)/\lN r2 r2':=by
 have hw:c0.what=x:=by rw[hx];rfl
 by_cases h58:c0.what=58
 .exact Jd hk0 h58 q hs h
 by_cases hbt:c0.what=98\/c0.what=116
 .exact orl_bt hk0 hbt (by rw[hx];rfl) q hs h
 by_cases htx:c0.what=97\/c0.what=105\/c0.what=99
 .exact MZ hk0 htx q hs h
 by_cases h115:c0.what=115
 .exact orl_s hsz hk0 h115 (by rw[hx];rfl) (by rw[hx];rfl) (by rw[hx];rfl) (by rw[hx];rfl) q hs h
 by_cases h121:c0.what=121
 .exact orl_y hk0 h121 q hs h
 by_cases h113:c0.what=113
 .exact orl_q hk0 h113 q hs h
 by_cases h119:c0.what=119
 .exact orl_w hk0 h119 q hs h
 have hc:c=c0:=by
  unfold aG at q;split at q
  .split at q
   .cases q
   .injection q with q;injection q with _ q;injection q with _ q;exact q.symm
  .split at q
   .split at q
    .cases q
    .injection q with q;injection q with _ q;injection q with _ q;exact q.symm
   .injection q with q;injection q with _ q;injection q with _ q;exact q.symm
 subst hc;have ho:c.opr.data.toList=[]:=Na (by omega) h119 htx h113 h115 h121;rw[ho] at h ⊢;unfold aG at q ⊢;split at q
 .rename_i c1;rw[QB c1];split at q
  .cases q
  .rename_i c2;rw[hs.bs,Qw c2,hs.cs];injection q with q;injection q with _ q;injection q with q _;subst q;exact⟨_,rfl,⟨rfl,hs.ns,hs.rg,rfl,hs.ls,hs.wt⟩⟩
 .rename_i c1;rw[Qw c1];split at q
  .rename_i c2;rw[QB c2,hs.bs]
   cases hg:r.blocks.getLast? with
   | none=>rw[hg] at q;cases q
   | some i=>
    rw[hg] at q;dsimp only at q ⊢;rw[hs.cs];injection q with q;injection q with _ q;injection q with q _;subst q;exact⟨_,rfl,⟨rfl,hs.ns,hs.rg,rfl,hs.ls,hs.wt⟩⟩
  .rename_i c2;rw[Qw c2];rw[Qw h58,Qw hbt,Qw htx,Qw h115,Qw h121,Qw h113,Qw h119];injection q with q;injection q with _ q;injection q with q _;subst q;exact⟨r',rfl,hs⟩
end
section
variable {s t:ByteArray}{k k0 e:Nat}{l:List UInt8}{r r' r2:RdS}{c c0:aH}
theorem DW(q:gQ s k0 r c0=.ok (e,r2,c)):r2.aD=r.aD:=by
 grind [gQ]
theorem Kc:∀{n k0:Nat} {c0:aH},aP s n k0 r c0=.ok (e,r2,c)->r2.aD=r.aD:=by
 intro n
 induction n<;>grind [aP,-> DW]
theorem Fx(L:List aH)(i g:Nat):(L.modify i fun d=>{ d with goal:=g}).map aH.txt=L.map aH.txt:=by
 apply Ss;intro j;rw[QX,QX,Sk]
 cases L[j]? with
 | none=>rfl
 | some d=>
  by_cases h:i=j
  .simp[h]
   rfl
  .simp[h]
theorem Jg(q:aG s k0 r c0=.ok (e,r2,c)):r2.aD.map aH.txt=r.aD.map aH.txt:=by
 unfold aG at q;split at q
 .split at q
  .cases q
  .injection q with q;injection q with _ q;injection q with q _;rw[<-q]
 split at q
 .split at q
  .cases q
  .injection q with q;injection q with _ q;injection q with q _;rw[<-q];exact Fx _ _ _
 split at q
 .cases hw:dT s k0 with
  | error z=>rw[hw] at q;cases q
  | ok z=>
   rw[hw] at q;dsimp only at q;split at q
   .cases q
   .injection q with q;injection q with _ q;injection q with q _;rw[<-q]
 split at q
 .split at q
  .cases hw:dT s (blk s k0) with
   | error z=>rw[hw] at q;cases q
   | ok z=>
    rw[hw] at q;injection q with q;injection q with _ q;injection q with q _;rw[<-q]
  .injection q with q;injection q with _ q;injection q with q _;rw[<-q]
 split at q
 .cases hw:fP s (s.size+1) (blk s k0) [] with
  | error z=>rw[hw] at q;cases q
  | ok z=>
   rw[hw] at q;injection q with q;injection q with _ q;injection q with q _;rw[<-q]
 split at q
 .cases hw:oL s k0 with
  | error z=>rw[hw] at q;cases q
  | ok z=>
   rw[hw] at q;dsimp only at q
   cases hn:oe s z.2.G (s.size+1) z.1 [] [] with
   | error y=>rw[hn] at q;cases q
   | ok y=>
    rw[hn] at q;rw[Kc q]
 split at q
 .split at q
  .cases hw:gG s (s.size+1) (k0+1) [] with
   | error z=>rw[hw] at q;cases q
   | ok z=>
    rw[hw] at q;dsimp only at q
    cases hn:toE s z.2.length (s.size+1) z.1 [] with
    | error y=>rw[hn] at q;cases q
    | ok y=>
     rw[hn] at q;injection q with q;injection q with _ q;injection q with q _;rw[<-q]
  .cases q
 split at q
 .cases hw:pZ s 0 255 (blk s k0) with
  | error z=>rw[hw] at q;cases q
  | ok z=>
   rw[hw] at q;injection q with q;injection q with _ q;injection q with q _;rw[<-q]
 split at q
 .rw[DW q]
 .injection q with q;injection q with _ q;injection q with q _;rw[<-q]
def Hf(l:List UInt8):Prop:=∃h l',l=h::l'/\h.toNat≠35/\h.toNat≠10/\h.toNat≠59/\h.toNat≠32/\h.toNat≠9
theorem oH{x:Nat}(h:iK.contains x=true):x=123\/x=125\/x=58\/x=98\/x=116\/x=97\/x=105\/x=99\/x=115\/x=121\/x=113\/x=119\/x=100\/x=68\/x=103\/x=71\/x=104\/x=72\/x=120\/x=110\/x=78\/x=112\/x=80\/x=108\/x=61:=by
 simpa[iK] using h
theorem xp{x:Nat}{nt:Bool}(hx:iK.contains x=true)(o:List UInt8):Hf ((if nt then [33] else [])++UInt8.ofNat x::o)/\NoA ((if nt then [33] else [])++UInt8.ofNat x::o):=by
 have hw:=oH hx;have e:(UInt8.ofNat x).toNat=x:=QV (by show x<256;omega)
 cases nt with
 | true=>
  refine⟨⟨33,_,rfl,by decide,by decide,by decide,by decide,by decide⟩,fun c l' q=>?_⟩;injection q with q _;rw[<-q]
  decide
 | false=>
  refine⟨⟨UInt8.ofNat x,o,rfl,by omega,by omega,by omega,by omega,by omega⟩,fun c l' q=>?_⟩;injection q with q _;rw[<-q,e];omega
theorem adrs_hd{L:List eE}{X:List UInt8}(h:Hf X):Hf (ep L++X):=by
 cases L with
 | nil=>exact h
 | cons A L=>
  have key:∃h0 l',A.txt.data.toList=h0::l'/\h0.toNat≠35/\h0.toNat≠10/\h0.toNat≠59/\h0.toNat≠32/\h0.toNat≠9:=by
   cases A with
   | num n=>
    obtain⟨d,tl,d1,d2⟩:=nR n;have e:(UInt8.ofNat (48+d)).toNat=48+d:=QV (by show 48+d<256;omega);refine⟨UInt8.ofNat (48+d),tl,?_,by omega,by omega,by omega,by omega,by omega⟩;show(ba (Lib.decDigits n)).data.toList=_;rw[<-d2];simp[ba]
   | last=>exact⟨36,[],rfl,by decide,by decide,by decide,by decide,by decide⟩
   | pat p=>
    refine⟨47,p.txt.data.toList++[47],?_,by decide,by decide,by decide,by decide,by decide⟩;show((⟨#[47]⟩++p.txt++⟨#[47]⟩:ByteArray)).data.toList=_;simp
  obtain⟨h0,l',e1,e2⟩:=key;exact⟨h0,_,by rw[ep,e1,QJ];rfl,e2⟩
theorem hd_nb{X:List UInt8}(h:Hf X)(hr:Rsx t k (X++l)):isB t k=false:=by
 obtain⟨h0,l',rfl,_,_,_,h4,h5⟩:=h;have hr:Rsx t k (h0::(l'++l)):=hr;rw[hr.isB,Ru,Qz,Qz];omega
theorem OT(hsz:s.size<=2000)(hk0:k0<=s.size)(q:tI s k0 r=.ok (e,r2)):∃(c:aH) (rr:RdS),r2={ rr with aD:=rr.aD++[c]}/\rr.aD.map aH.txt=r.aD.map aH.txt/\Hf c.txt /\
  ∀(t:ByteArray) (k:Nat) (l:List UInt8) (r':RdS),lN r r'->Rsx t k (c.txt++l)->∃r2',tI t k r'=.ok (k+(c.txt.length-1),r2')/\lN r2 r2'/\Rsx t (k+(c.txt.length-1)) (10::l):=by
 unfold tI at q
 cases hA:gH s k0 with
 | error z=>rw[hA] at q;cases q
 | ok z=>
  obtain⟨k1,L⟩:=z;rw[hA] at q;dsimp only at q;obtain⟨nt,hnt⟩:∃nt,nt=saw s (blk s k1) 33:=⟨_,rfl⟩;obtain⟨k3,hk3⟩:∃k3,k3=if saw s (blk s k1) 33=true then blk s (blk s k1+1) else blk s k1:=⟨_,rfl⟩;obtain⟨r1,hr1⟩:∃r1,r1=if L.length=2 then { r with ranges:=r.ranges+1} else r:=⟨_,rfl⟩;rw[<-hk3,<-hr1,<-hnt] at q;split at q
  .rename_i hlt;obtain⟨x,hx⟩:∃x,x=(s[k3]'hlt).toNat:=⟨_,rfl⟩;rw[<-hx] at q;split at q
   .cases q
   rename_i hwh;have hwh:iK.contains x=true:=by
    cases hq:iK.contains x with
    | true=>rfl
    | false=>exact absurd hq hwh
   split at q
   .cases q
   rename_i hbad
   cases hO:aG s (k3+1) r1 (dH L (if L.length=2 then r.ranges else 0) nt x) with
   | error z=>rw[hO] at q;cases q
   | ok z=>
    obtain⟨e1,rr,c⟩:=z;rw[hO] at q;dsimp only at q;have ok:=jZ hsz (by omega) hO;have ca:c.fw=L:=ok.ca;have cn:c.neg=nt:=ok.cn;have cw:c.what=x:=ok.cw;have hr2:r2={ rr with aD:=rr.aD++[c]}:=by
     split at q
     .injection q with q;injection q with _ q;exact q.symm
     .split at q
      .injection q with q;injection q with _ q;exact q.symm
      .cases q
    have hct:c.txt=ep L++((if nt then [33] else [])++(UInt8.ofNat x::(c.opr.data.toList++[10]))):=by
     unfold aH.txt;rw[ca,cn,cw]
    obtain⟨hd1,hd2⟩:=xp (nt:=nt) hwh (c.opr.data.toList++[10]);refine⟨c,rr,hr2,?_,?_,?_⟩
    .rw[Jg hO,hr1];split<;>rfl
    .rw[hct];exact adrs_hd hd1
    .intro t k l r' hs h;have hex:(UInt8.ofNat x).toNat=x:=by
      have:=oH hwh;exact QV (by show x<256;omega)
     rw[hct] at h ⊢;have hl1:(ep L++((if nt then [33] else [])++(UInt8.ofNat x::(c.opr.data.toList++[10]))))++l=ep L++((if nt then [33] else [])++(UInt8.ofNat x::(c.opr.data.toList++10::l))):=by simp
     rw[hl1] at h;obtain⟨hd3,hd4⟩:=xp (nt:=nt) hwh (c.opr.data.toList++10::l);have hA2:=Lx hsz hk0 hA h hd4;have h1:=h.app;obtain⟨j1,hj1⟩:∃j1,j1=k+(ep L).length:=⟨_,rfl⟩;rw[<-hj1] at hA2 h1;have nb1:isB t j1=false:=hd_nb (l:=[]) hd3 (by rw[Ry];exact h1);have hs1:lN r1 (if L.length=2 then { r' with ranges:=r.ranges+1} else r'):=by
      rw[hr1];split
      .exact⟨hs.cs,hs.ns,rfl,hs.bs,hs.ls,hs.wt⟩
      .exact hs
     obtain⟨j3,hj3,hsaw,h3⟩:∃j3,j3=j1+(if nt then [33] else ([]:List UInt8)).length/\(saw t j1 33=nt/\(if saw t j1 33=true then blk t (j1+1) else j1)=j3)/\Rsx t j3 (UInt8.ofNat x::(c.opr.data.toList++10::l)):=by
      refine⟨_,rfl,?_,h1.app⟩
      cases nt with
      | true=>
       have h1:Rsx t j1 (33::(UInt8.ofNat x::(c.opr.data.toList++10::l))):=h1;have e1:saw t j1 33=true:=by rw[h1.saw];rfl
       have nb2:isB t (j1+1)=false:=by
        have:=xp (nt:=false) hwh (c.opr.data.toList++10::l);exact hd_nb (l:=[]) this.1 (by rw[Ry];exact h1.next)
       rw[e1,QB rfl,lE nb2];exact⟨rfl,rfl⟩
      | false=>
       have h1:Rsx t j1 (UInt8.ofNat x::(c.opr.data.toList++10::l)):=h1;have e1:saw t j1 33=false:=by
        rw[h1.saw,hex,Qz];have:=oH hwh;omega
       rw[e1,Qw (by simp)];exact⟨rfl,rfl⟩
     obtain⟨r2',o1,o2⟩:=Ji hsz (by omega) rfl hO hs1 h3.next;have h4:=h3.next.app;obtain⟨_,_,n3,_⟩:=Ns h4;refine⟨{ r2' with aD:=r2'.aD++[c]},?_,?_,?_⟩
     .unfold tI;rw[hA2];dsimp only;rw[lE nb1,hsaw.2,hsaw.1,dif_pos h3.lt,h3.get,hex,Qw (by rw[hwh];simp),Qw hbad,hs.rg,o1];dsimp only;have e5:k+((ep L++((if nt then [33] else [])++(UInt8.ofNat x::(c.opr.data.toList++[10])))).length-1)=j3+1+c.opr.data.toList.length:=by
       rw[hj3,hj1];simp only[Qy,QF,Rk];omega
      rw[e5];split
      .rfl
      .rw[lE n3,QB (by unfold iD;rw[h4.saw];simp)]
     .rw[hr2];exact⟨by show r2'.aD++[c]=rr.aD++[c];rw[o2.cs],o2.ns,o2.rg,o2.bs,o2.ls,o2.wt⟩
     .have e5:k+((ep L++((if nt then [33] else [])++(UInt8.ofNat x::(c.opr.data.toList++[10])))).length-1)=j3+1+c.opr.data.toList.length:=by
       rw[hj3,hj1];simp only[Qy,QF,Rk];omega
      rw[e5];exact h4
  .cases q
end
section
variable {s t:ByteArray}{k k0 e:Nat}{l:List UInt8}{r r' r2 rf:RdS}{c c0:aH}
theorem xw{n:Nat}{X:List UInt8}(h:Rsx t k X)(hX:X=[]\/Hf X):oU t (n+1) k=k:=by
 have key:saw t k 35=false/\saw t k 10=false/\saw t k 59=false/\isB t k=false:=by
  rcases hX with rfl|⟨h0,l',rfl,h1,h2,h3,h4,h5⟩
  .unfold isB;rw[dU h,dU h,dU h,dU h,dU h];exact⟨rfl,rfl,rfl,rfl⟩
  .rw[h.isB,h.saw,h.saw,h.saw];refine⟨?_,?_,?_,?_⟩
   .rw[Qz];omega
   .rw[Qz];omega
   .rw[Qz];omega
   .rw[Ru,Qz,Qz];omega
 rw[oU,key.1,Qw (by simp),key.2.1,key.2.2.1,key.2.2.2,Qw (by simp)]
theorem D9{n:Nat}{X:List UInt8}(h:Rsx t k (10::X))(hX:X=[]\/Hf X):oU t (n+2) k=k+1:=by
 rw[oU,h.saw 35,Qw (by decide),h.saw 10,QB (by simp)];exact xw h.next hX
theorem Bs{D:List (List UInt8)}(h:∀d∈D,Hf d):D.flatten=[]\/Hf D.flatten:=by
 cases D with
 | nil=>exact .inl rfl
 | cons d D=>
  obtain⟨h0,l',e1,e2⟩:=h d (by simp);exact .inr ⟨h0,l'++D.flatten,by rw[Rf,e1];rfl,e2⟩
theorem zQ(hsz:s.size<=2000):∀{n k0:Nat} {r:RdS},k0<=s.size->tQ r k0->eR s n k0 r=.ok rf->∃D:List (List UInt8),rf.aD.map aH.txt=r.aD.map aH.txt++D/\(∀d∈D,Hf d) /\
  ∀(t:ByteArray) (n' k:Nat) (r':RdS),lN r r'->(Rsx t k D.flatten\/Rsx t k (10::D.flatten))->D.length<n'->∃rf',eR t n' k r'=.ok rf'/\lN rf rf'
 | 0,_,_,_,_,q=>by cases q
 | n+1,k0,r,hk0,hR,q=>by
  unfold eR at q;have hb:=jG (s:=s) (s.size+1) k0;split at q
  .rename_i hlt
   cases hC:tI s (oU s (s.size+1) k0) r with
   | error z=>rw[hC] at q;cases q
   | ok z=>
    obtain⟨e,r2⟩:=z;rw[hC] at q;dsimp only at q;have ok:=qG hsz (hb.2 hk0) (hR.mono hb.1) hC;obtain⟨c,rr,e1,e2,e3,e4⟩:=OT hsz (hb.2 hk0) hC;obtain⟨D,f1,f2,f3⟩:=zQ hsz ok.2.2 ok.1 q;refine⟨c.txt::D,?_,?_,?_⟩
    .rw[f1,e1,Q6,e2];simp
    .intro d hd;rcases List.mem_cons.1 hd with rfl|hd
     .exact e3
     .exact f2 d hd
    .intro t n' k r' hs hk hn;have hfl:(c.txt::D).flatten=c.txt++D.flatten:=Rf;rw[hfl] at hk;have hX:c.txt++D.flatten=[]\/Hf (c.txt++D.flatten):=by
      obtain⟨h0,l',g1,g2⟩:=e3;exact .inr ⟨h0,l'++D.flatten,by rw[g1];rfl,g2⟩
     obtain⟨k1,hk1,hr1⟩:∃k1,oU t (t.size+1) k=k1/\Rsx t k1 (c.txt++D.flatten):=by
      rcases hk with h|h
      .exact⟨k,xw h hX,h⟩
      .have:=h.lt;refine⟨k+1,?_,h.next⟩;rw[show t.size+1=(t.size-1)+2 by omega];exact D9 h hX
     obtain⟨r2',g1,g2,g3⟩:=e4 t k1 D.flatten r' hs hr1
     match n',hn with
     | n'+1,hn=>
      obtain⟨rf',m1,m2⟩:=f3 t n' _ r2' g2 (.inr g3) (by rw[QF] at hn;omega);refine⟨rf',?_,m2⟩;have hlt:k1<t.size:=by
       obtain⟨h0,l',g4,_⟩:=e3;rw[g4] at hr1;exact Rsx.lt (l:=l'++D.flatten) hr1
      unfold eR;rw[hk1,QB hlt,g1];exact m1
  .injection q with q;subst q;refine⟨[],by simp,by simp,fun t n' k r' hs hk hn=>?_⟩
   match n',hn with
   | n'+1,hn=>
    refine⟨r',?_,hs⟩;have hend:oU t (t.size+1) k=t.size:=by
     rcases hk with h|h
     .rw[xw h (.inl rfl)];exact Rsx.nil h
     .have:=h.lt;rw[show t.size+1=(t.size-1)+2 by omega,D9 h (.inl rfl)];exact Rsx.nil h.next
    unfold eR;rw[hend,Qw (by omega)]
theorem nM:∀{w:List (Nat×Nat)} {r r2:RdS},dE w r=.ok r2->r2.aD.map aH.txt=r.aD.map aH.txt
 | [],_,_,q=>by injection q with q;rw[q]
 | (i,pl)::w,r,r2,q=>by
  unfold dE at q;have key:∀(c:aH) (g:Nat),r.aD[i]? = some c->(r.aD.set i { c with goal:=g}).map aH.txt=r.aD.map aH.txt:=fun c g hc=>by
   apply Ss;intro j;rw[QX,QX,List.getElem?_set];by_cases h:i=j
   .subst h;have hl:=(List.getElem?_eq_some_iff.1 hc).1;rw[QB rfl,QB hl,hc]
    rfl
   .rw[Qw h]
  cases hc:r.aD[i]? with
  | none=>rw[hc] at q;cases q
  | some c=>
   rw[hc] at q;dsimp only at q;split at q
   .rw[nM q];exact key c _ hc
   .cases hf:r.labels.find? (c.label == ·.1) with
    | none=>rw[hf] at q;cases q
    | some z=>
     rw[hf] at q;rw[nM q];exact key c _ hc
theorem nO:∀{w w':List (Nat×Nat)} {r r' r2:RdS},w'.map (·.1)=w.map (·.1)->lN r r'->dE w r=.ok r2->∃r2',dE w' r'=.ok r2'/\lN r2 r2'
 | [],w',r,r',r2,hw,hs,q=>by
  have:w'=[]:=List.map_eq_nil_iff.1 hw;subst this;injection q with q;subst q;exact⟨r',rfl,hs⟩
 | (i,pl)::w,[],r,r',r2,hw,hs,q=>by cases hw
 | (i,pl)::w,(i',pl')::w',r,r',r2,hw,hs,q=>by
  simp only[SQ,List.cons.injEq] at hw;obtain⟨rfl,hw⟩:=hw;unfold dE at q ⊢;rw[hs.cs]
  cases hc:r.aD[i']? with
  | none=>rw[hc] at q;cases q
  | some c=>
   rw[hc] at q;dsimp only at q ⊢;split at q
   .rename_i h0;rw[QB h0];refine nO hw ?_ q;exact⟨rfl,hs.ns,hs.rg,hs.bs,hs.ls,hs.wt⟩
   .rename_i h0;rw[Qw h0,hs.ls]
    cases hf:r.labels.find? (c.label == ·.1) with
    | none=>rw[hf] at q;cases q
    | some z=>
     rw[hf] at q;dsimp only at q ⊢;refine nO hw ?_ q;exact⟨rfl,hs.ns,hs.rg,hs.bs,(by first|exact hs.ls|rfl),hs.wt⟩
theorem EL{S:fN}(q:lQ s=.ok S)(hl:S.txt.length<=2000):lQ (ba S.txt)=.ok S:=by
 unfold lQ at q;split at q
 .cases q
 rename_i hsz
 cases hC:eR s (s.size+1) 0 rd0 with
 | error z=>rw[hC] at q;cases q
 | ok rf=>
  rw[hC] at q;dsimp only at q;split at q
  .cases q
  rename_i hbl
  cases hG:dE rf.wanted rf with
  | error z=>rw[hG] at q;cases q
  | ok rg=>
   rw[hG] at q;dsimp only at q;injection q with q;obtain⟨D,f1,f2,f3⟩:=zQ (by omega) (QG _) iQ hC;have hD:rf.aD.map aH.txt=D:=f1;have hfm:S.aD.flatMap aH.txt=D.flatten:=by
    rw[<-q];show rg.aD.flatMap aH.txt=_;rw[List.flatMap_def,nM hG,hD]
   have htx:S.txt=(if S.quiet then [35,110,10] else [])++D.flatten:=by
    unfold fN.txt;rw[hfm]
   obtain⟨T,hT⟩:∃T,T=ba S.txt:=⟨_,rfl⟩;have hTl:T.data.toList=S.txt:=by rw[hT];simp[ba]
   have hTs:T.size=S.txt.length:=by rw[hT,ay]
   have h0:Rsx T 0 S.txt:=⟨hTl,QG _⟩;have hDl:D.length<=D.flatten.length:=by
    have:∀E:List (List UInt8),(∀d∈E,Hf d)->E.length<=E.flatten.length:=by
     intro E
     induction E with
     | nil=>intro _;simp
     | cons d E ih=>
      intro h;obtain⟨a,b,e1,_⟩:=h d (by simp);have:=ih (fun x hx=>h x (by simp[hx]));rw[Rf,e1,QF,Qy,QF];omega
    exact this D f2
   rw[<-hT];have hDs:D.length<T.size+1:=by
    rw[hTs,htx,Qy];omega
   -- the commands
   obtain⟨rf',g1,g2⟩:∃rf',eR T (T.size+1) 0 rd0=.ok rf'/\lN rf rf':=by
    cases hq:S.quiet with
    | false=>
     rw[htx,hq] at h0;exact f3 T (T.size+1) 0 rd0 ⟨rfl,rfl,rfl,rfl,rfl,rfl⟩ (.inl h0) hDs
    | true=>
     rw[htx,hq] at h0;have h0:Rsx T 0 (35::(110::(10::D.flatten))):=h0;have h1:=h0.next;have h2:=h1.next;have h3:=h2.next;have l2:=h2.lt
     -- the comment is passed
     have hb0:oU T (T.size+1) 0=oU T (T.size+1) 2:=by
      have hc:Gx T (T.size+1) 0=2:=by
       obtain⟨m,hm⟩:∃m,T.size+1=m+3:=⟨T.size-2,by omega⟩;rw[hm,Gx,QB ⟨h0.lt,by rw[h0.saw];decide⟩,Gx,QB ⟨h1.lt,by rw[h1.saw];decide⟩,Gx,Qw (by rw[h2.saw];simp)]
      rw[oU,QB (by rw[h0.saw];rfl),hc];obtain⟨m,hm⟩:∃m,T.size=m+2:=⟨T.size-2,by omega⟩;rw[hm,D9 h2 (Bs f2),show m+2+1=(m+1)+2 from rfl,D9 h2 (Bs f2)]
     obtain⟨rf',g1,g2⟩:=f3 T (T.size+1) 2 rd0 ⟨rfl,rfl,rfl,rfl,rfl,rfl⟩ (.inr h2) hDs;refine⟨rf',?_,g2⟩;rw[<-g1];rw[eR,eR,hb0]
   obtain⟨rg',m1,m2⟩:=nO g2.wt g2 hG;have hqt:qtB T=S.quiet:=by
    unfold qtB pfxB;rw[toList_data,hTl,hTs,htx]
    cases hq:S.quiet with
    | true=>
     rw[QB rfl];have:(T.extract 0 (⟨#[35,110,10]⟩:ByteArray).size).toList=[35,110,10]:=by
      rw[toList_data,fG,hTl,htx,hq]
      rfl
     rw[this];simp;show 3<=_+1+1+1;omega
    | false=>
     rw[Qw (by simp),Rx];rcases Bs f2 with h|⟨h0',l',e1,e2,_⟩
     .rw[h]
      rfl
     .have hne:h0'≠35:=fun z=>e2 (by rw[z];rfl);have h4:((D.flatten==[35,110]):Bool)=false:=by
       rw[e1,Qz];intro z;injection z with z _;exact hne z
      rw[h4,Sv,Bool.and_eq_false_iff]
      right
      rw[toList_data,fG,hTl,htx,hq,Qw (by simp),Rx,e1,toList_data,Qz];intro z;have:(h0'::l').take 3=[35,110,10]:=z;rw[List.take_succ_cons] at this;injection this with z _;exact hne z
   unfold lQ;rw[Qw (by omega),g1];dsimp only;rw[Qw (by rw[g2.bs];exact hbl),m1];dsimp only;rw[hqt,m2.cs,m2.ns,m2.rg,<-q]
end
section
variable {cd:Nat->In}{n D:Nat}{text:ByteArray}
theorem yi{pl F:Nat}{r:Mc}:∀(l:List Thr) (s:Mc),jt cd n D text F pl l s=some r->jr cd n D text pl l s r
 | [],s,e=>by rw[jt] at e;rw[jr];exact(Option.some.inj e).symm
 | t::l,s,e=>by
  rw[jt] at e;rw[jr];by_cases h:s.fd=true/\s.fc 0<t.x 0
  .rw[QB h] at e;exact .inl ⟨h.1,h.2,(Option.some.inj e).symm⟩
  .rw[Qw h] at e
   cases q:eQ cd n D text pl F (some t) s with
   | none=>rw[q] at e;cases e
   | some s1=>
    rw[q] at e;exact .inr ⟨h,s1,⟨F,q⟩,yi l s1 e⟩
theorem CZ{bg F:Nat}{r:Mc}:∀(k pl:Nat) (here:List Thr) (s:Mc),qW cd n D text bg F k pl here s=some r->oW cd n D text bg k pl here s r
 | 0,pl,here,s,e=>by rw[qW] at e;rw[oW];exact(Option.some.inj e).symm
 | k+1,pl,here,s,e=>by
  rw[qW] at e;rw[oW];generalize (if s.fd=true then here else here++[⟨bg,0,nz pl⟩])=hh at e ⊢
  cases hh with
  | nil=>exact .inl ⟨rfl,(Option.some.inj e).symm⟩
  | cons t l=>
   dsimp only at e
   cases q:jt cd n D text F pl (t::l) s with
   | none=>rw[q] at e;cases e
   | some s1=>
    rw[q] at e;exact .inr ⟨by simp,s1,yi _ _ q,CZ k (pl+1) _ _ e⟩
end
section
variable {q:Ptn}{t:ByteArray}{fr:Nat}{s r:Mc}{F:Nat}
def srchF(q:Ptn)(t:ByteArray)(F fr:Nat)(s:Mc):Option Mc:=qW q.cd q.n q.D t q.bg F (t.size+1-fr) fr [] { s with fd:=false}
theorem Mw(h:srchF q t F fr s=some r):Ev q t fr s=r:=pM (CZ _ _ _ _ h)
def Fj(q:Ptn)(t:ByteArray)(F:Nat):Nat->Nat->Mc->Option (List (Nat->Int))
 | 0,_,_=>some []
 | k+1,fr,s=>match srchF q t F fr s with
  | none=>none
  | some r=>if r.fd then (match Fj q t F k (r.fc 1).toNat r with
    | none=>none
    | some l=>some (r.fc::l))
   else some []
theorem Dl:∀(k fr:Nat) (s:Mc) (l:List (Nat->Int)),Fj q t F k fr s=some l->LW q t k fr s=l
 | 0,_,_,l,e=>by injection e
 | k+1,fr,s,l,e=>by
  rw[Fj] at e;rw[LW]
  cases h:srchF q t F fr s with
  | none=>rw[h] at e;cases e
  | some r=>
   rw[h] at e;dsimp only at e;rw[Mw h]
   cases hf:r.fd with
   | false=>
    rw[hf] at e;injection e
   | true=>
    rw[hf] at e;rw[QB rfl] at e ⊢
    cases h2:Fj q t F k (r.fc 1).toNat r with
    | none=>rw[h2] at e;cases e
    | some l2=>
     rw[h2] at e;injection e with e;rw[Dl k _ _ l2 h2,e]
def De(F:Nat)(c:aH)(sp:List UInt8):Option (Option (List UInt8)):=
 match c.pat with
 | none=>some none
 | some q=>match Fj q (ba sp) F (((ba sp).size+1)*(q.n*(q.D+1))+1) 0 mc0 with
  | none=>none
  | some l=>some (if (fX c sp l ⟨0,[],0,false⟩).ok then some ((fX c sp l ⟨0,[],0,false⟩).acc++sp.drop (fX c sp l ⟨0,[],0,false⟩).done) else none)
theorem yC{c:aH}{sp:List UInt8}{x:Option (List UInt8)}(h:De F c sp=some x):oC c sp=x:=by
 unfold De at h;unfold oC
 cases hp:c.pat with
 | none=>rw[hp] at h;injection h
 | some q=>
  rw[hp] at h;dsimp only at h ⊢
  cases hl:Fj q (ba sp) F (((ba sp).size+1)*(q.n*(q.D+1))+1) 0 mc0 with
  | none=>rw[hl] at h;cases h
  | some l=>
   rw[hl] at h;have e:q.LV sp=l:=Dl _ _ _ l hl;rw[e];injection h
end
def wkS:fN:=match lQ ⟨#[115,47,98,47,120,47]⟩ with
 | .ok S=>S
 | .error _=>⟨false,[],[],0⟩
theorem wk_read:(match lQ ⟨#[115,47,98,47,120,47]⟩ with | .ok _=>true | .error _=>false)=true:=by decide +kernel
theorem wk_scr:lQ ⟨#[115,47,98,47,120,47]⟩=.ok wkS:=by
 have h:=wk_read;unfold wkS
 cases hs:lQ ⟨#[115,47,98,47,120,47]⟩ with
 | error q=>rw[hs] at h;cases h
 | ok S=>rfl
theorem rE:wkS.aD.length=1/\wkS.quiet=false/\wkS.names.length=0/\wkS.ranges=0:=by decide +kernel
theorem wk_r1:(wkS.aD[0]?.map fun c=>De 50 c [97,98,99])=some (some (some [97,120,99])):=by decide +kernel
theorem wk_r2:(wkS.aD[0]?.map fun c=>De 50 c [97,98])=some (some (some [97,120])):=by decide +kernel
theorem wk_cmd:∃c,wkS.aD=[c]/\c.what=115/\c.fw=[]/\c.neg=false/\c.print=false/\c.name.size=0/\oC c [97,98,99]=some [97,120,99]/\oC c [97,98]=some [97,120]:=by
 have hl:=rE.1;have r1:=wk_r1;have r2:=wk_r2;have f:(wkS.aD[0]?.map fun c=>(c.what,c.fw.length,c.neg,c.print,c.name.size))=some (115,0,false,false,0):=by decide +kernel
 match hc:wkS.aD,hl with
 | [c],_=>
  rw[hc] at r1 r2 f;simp only[Rv,SI,Option.some.injEq,Prod.mk.injEq] at r1 r2 f;exact⟨c,rfl,f.1,Rb f.2.1,f.2.2.1,f.2.2.2.1,f.2.2.2.2,yC r1,yC r2⟩
section
variable {S:fN}{u u1 u2:Ust}{k:Nat}
theorem jU(h:u.over=false)(h1:u.dt=.ok (some u1))(h2:u1.look S=.ok u2):Ust.AM S (k+1) u=Ust.AM S k u2:=by
 rw[Ust.AM,Qw (by rw[h];simp),h1];dsimp only;rw[h2]
theorem Dc(h:u.over=false)(h1:u.dt=.ok none):Ust.AM S (k+1) u=.ok u:=by
 rw[Ust.AM,Qw (by rw[h];simp),h1]
theorem PW{c:aH}{t:List UInt8}(hS:S.aD=[c])(h1:c.what=115)(h2:c.fw=[])(h3:c.neg=false)(h4:c.print=false)(h5:c.name.size=0)(hp:u.pc=0)(hst:u.steps<2000)(hr:oC c u.space=some t)(ht:t.length<=4000):u.look S=.ok { u with pc:=1,steps:=u.steps+1,space:=t,gU:=true}:=by
 unfold Ust.look;rw[hS,hp];simp only[Rv];rw[Qw (by rw[h1];simp),Qw (by omega)];unfold Ust.addressed;rw[h2];dsimp only;rw[h3,QB (by rfl)];unfold Ust.lB;rw[h1];simp only[reduceIte,Nat.reduceEqDiff];rw[ni];show(match oC c u.space with|none=>_|some t=>_)=_;rw[hr];dsimp only;rw[Qw (by omega),h4,Qw (by simp)];show jd c _=_;unfold jd;rw[QB h5]
theorem PX(hp:S.aD[u.pc]? = none)(hq:S.quiet=false)(hb:u.br=[])(hc:u.count+u.space.length+1<=200000):u.look S=.ok { u with count:=u.count+u.space.length+1,out:=u.out++u.space++[10],aR:=.bw}:=by
 unfold Ust.look;rw[hp];dsimp only;rw[hq];unfold Ust.eZ Ust.fj;rw[Qw (by simp)];unfold Ust.tell;rw[Qw (by omega)];dsimp only;rw[nT];have e:∀x:Ust,x.br=[]->noBrR (Ust.jy x.br x)=.ok x:=fun x hx=>by
  rw[hx];obtain⟨left,ahead,ended,count,number,space,held,aR,pc,steps,gU,over,err,status,out,fb,rg,br⟩:=x
  cases hx
  rfl
 rw[e { u with count:=u.count+u.space.length+1,out:=u.out++u.space++[10]} hb]
end
theorem Hk:((ua false 0 0).feed wkS [97,98,99,10,97,98])=(⟨[97,120,99,10],false,0,0⟩,{ ua false 0 0 with left:=[97,98],count:=4,number:=1,space:=[97,120,99],pc:=1,steps:=1,gU:=true}) /\
  ({ ua false 0 0 with left:=[97,98],count:=4,number:=1,space:=[97,120,99],pc:=1,steps:=1,gU:=true}:Ust).end_ wkS=(⟨[97,120,10],true,0,0⟩,{ ua false 0 0 with ended:=true,over:=true,count:=7,number:=2,space:=[97,120],pc:=1,steps:=1,gU:=true}):=by
 obtain⟨c,hc,h1,h2,h3,h4,h5,r1,r2⟩:=wk_cmd;have hq:=rE.2.1;constructor
 .unfold Ust.feed;rw[Qw (by rw[show(ua false 0 0).over=false from rfl];simp),C7];have hf:({ ua false 0 0 with left:=(ua false 0 0).left++[97,98,99,10,97,98]}:Ust).fuel wkS=42066+1+1+1+1:=by
   unfold Ust.fuel;rw[rE.1]
   rfl
  rw[hf];rw[jU (u1:={ ua false 0 0 with left:=[97,98],number:=1,aR:=.no,space:=[97,98,99]}) rfl rfl (PW hc h1 h2 h3 h4 h5 rfl (by show 0<2000;omega) r1 (by decide))];rw[jU rfl rfl (PX (by rw[hc];rfl) hq rfl (by decide))];rw[Dc rfl rfl]
  rfl
 .unfold Ust.end_;rw[Qw (by rw[show({ ua false 0 0 with left:=[97,98],count:=4,number:=1,space:=[97,120,99],pc:=1,steps:=1,gU:=true}:Ust).over=false from rfl];simp),C7];have hf:({ ua false 0 0 with left:=[97,98],count:=4,number:=1,space:=[97,120,99],pc:=1,steps:=1,gU:=true,ended:=true}:Ust).fuel wkS=18026+1+1+1+1:=by
   unfold Ust.fuel;rw[rE.1]
   rfl
  rw[hf];rw[jU (u1:={ ua false 0 0 with ended:=true,left:=[],count:=4,number:=2,aR:=.no,space:=[97,98]}) rfl rfl (PW hc h1 h2 h3 h4 h5 rfl (by show 0<2000;omega) r2 (by decide))];rw[jU rfl rfl (PX (by rw[hc];rfl) hq rfl (by decide))];rw[Dc rfl rfl]
  rfl
