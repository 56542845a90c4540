import Derived.Test.YtiahkfoojjpaaaaGreatDoorS34
import Derived.Test.YtiahkfoojjpaaaaGreatDoorS36
set_option maxRecDepth 100000
set_option maxHeartbeats 16000000
set_option linter.all false
namespace Go.Proofs.YtiahkfoojjpaaaaGreatDoor
open Go.RowKit
def Off(s:ByteArray)(a:Nat)(t:ByteArray)(b:Nat):Prop:=s.data.toList.drop a=t.data.toList.drop b/\a<=s.size/\b<=t.size
def iJ{α:Type}(a b k:Nat)(x y:Except Nat (Nat×α)):Prop:=∀l v,x=.ok (l,v)->∃l1,y=.ok (l1,v)/\l+b=l1+a/\k<=l
theorem Qi(s:ByteArray):(⟨s.data.toList.toArray⟩:ByteArray)=s:=by simp
section
variable {s t:ByteArray}{a b:Nat}
theorem Off.at_(h:Off s a t b)(i:Nat):s.data.toList[a+i]? = t.data.toList[b+i]?:=by
 have:=congrArg (fun l=>l[i]?) h.1;simpa[Rt] using this
theorem Off.size(h:Off s a t b):s.size-a=t.size-b:=by
 have:=congrArg List.length h.1;rw[QZ,QZ,QK,QK] at this;exact this
theorem Off.lt(h:Off s a t b)(i:Nat):a+i<s.size ↔ b+i<t.size:=by
 have:=h.size;have:=h.2;omega
theorem Off.get(h:Off s a t b)(i:Nat)(h1:a+i<s.size)(h2:b+i<t.size):s[a+i]'h1=t[b+i]'h2:=by
 have e:=h.at_ i;have e1:s.data.toList[a+i]? = some (s[a+i]'h1):=by
  rw[Ro];exact QR h1
 have e2:t.data.toList[b+i]? = some (t[b+i]'h2):=by
  rw[Ro];exact QR h2
 rw[e1,e2] at e;injection e
theorem Off.ltE{k k1:Nat}(h:Off s a t b)(e:k+b=k1+a)(ha:a<=k):k<s.size ↔ k1<t.size:=by
 have:=h.lt (k-a);rw[show a+(k-a)=k by omega,show b+(k-a)=k1 by omega] at this;exact this
theorem Off.getE{k k1:Nat}(h:Off s a t b)(e:k+b=k1+a)(ha:a<=k)(h1:k<s.size)(h2:k1<t.size):s[k]'h1=t[k1]'h2:=by
 have:=h.get (k-a) (by omega) (by omega);simpa only[show a+(k-a)=k by omega,show b+(k-a)=k1 by omega] using this
theorem Off.CW{k k1:Nat}{x:Int}(h:Off s a t b)(e:k+b=k1+a)(ha:a<=k):saw s k x=saw t k1 x:=by
 have:=h.ltE e ha
 grind [saw,h.getE e ha]
theorem Off.digE{k k1:Nat}(h:Off s a t b)(e:k+b=k1+a)(ha:a<=k):dig s k=dig t k1:=by
 have:=h.ltE e ha
 grind [dig,h.getE e ha]
theorem Off.dgPE{k k1:Nat}(h:Off s a t b)(e:k+b=k1+a)(ha:a<=k):dgP s k=dgP t k1:=by
 have:=h.ltE e ha
 grind [dgP,h.getE e ha]
theorem Off.ext(h:Off s a t b)(i j:Nat):s.extract (a+i) (a+j)=t.extract (b+i) (b+j):=by
 have e:∀(u:ByteArray) (c:Nat),(u.extract (c+i) (c+j)).data.toList=((u.data.toList.drop c).drop i).take (j-i):=fun u c=>by
  rw[RS,Sl,List.drop_drop];show(u.data.toList.drop (c+i)).take (c+j-(c+i))=_;rw[show c+j-(c+i)=j-i by omega]
 have e1:=e s a;have e2:=e t b;rw[h.1] at e1;have:=e1.trans e2.symm;have q1:=Qi (s.extract (a+i) (a+j));have q2:=Qi (t.extract (b+i) (b+j));rw[<-q1,<-q2,this]
theorem Off.extE{k k1 f f1:Nat}(h:Off s a t b)(e:k+b=k1+a)(ha:a<=k)(e2:f+b=f1+a)(hf:a<=f):s.extract f k=t.extract f1 k1:=by
 have:=h.ext (f-a) (k-a);rw[show a+(k-a)=k by omega,show b+(k-a)=k1 by omega,show a+(f-a)=f by omega,show b+(f-a)=f1 by omega] at this;exact this
theorem Ou{bh:ByteArray}{k k1:Nat}(h:Off s a t b)(e:k+b=k1+a)(ha:a<=k):iJ a b (k+1) (escP s bh k) (escP t bh k1):=by
 have h0:=h.ltE e ha;have h1:=h.getE e ha
 grind [iJ,escP,Off.CW]
theorem D8{br bh:ByteArray}{k k1:Nat}(h:Off s a t b)(e:k+b=k1+a)(ha:a<=k):iJ a b (k+1) (zY s br bh k) (zY t br bh k1):=by
 have h0:=h.ltE e ha;have h1:=h.getE e ha;have h2:=Ou (bh:=bh) (k:=k+1) (k1:=k1+1) h (by omega) (by omega)
 grind [iJ,zY,Off.CW]
theorem yM{f f1:Nat}(h:Off s a t b)(e2:f+b=f1+a)(hf:a<=f):∀(n n' k k1:Nat),k+b=k1+a->a<=k->t.size-k1<n'->iJ a b (k+1) (lg s f n k) (lg t f1 n' k1)
 | 0,_,_,_,_,_,_=>fun l v q=>by cases q
 | n+1,0,_,_,_,_,hn=>absurd hn (by omega)
 | n+1,n'+1,k,k1,e,ha,hn=>by
  have h0:=h.ltE e ha;have h1:=h.extE (k:=k+1) (k1:=k1+1) (by omega) (by omega) e2 hf;have ih:=yM h e2 hf n n' (k+1) (k1+1) (by omega) (by omega);intro l v q;rw[lg] at q ⊢;rw[<-h1];split at q
  .rename_i c;rw[QB ⟨h0.1 c.1,c.2⟩];have:=ih (by omega)
   grind [iJ]
  .cases q
theorem yX{k k1:Nat}{m:Nat->Bool}(h:Off s a t b)(e:k+b=k1+a)(ha:a<=k):iJ a b (k+1) (iE s k m) (iE t k1 m):=by
 have i1:=yM (f:=k+2) (f1:=k1+2) h (by omega) (by omega) (s.size+1) (t.size+1) (k+2) (k1+2) (by omega) (by omega) (by omega);have i2:∀l l1,l+b=l1+a->a<=l->iJ a b (l+1) (zY s dM dN l) (zY t dM dN l1):=fun l l1=>D8 h;have s1:∀l l1 x,l+b=l1+a->a<=l->saw s l x=saw t l1 x:=fun l l1 x=>h.CW;have s2:=s1 k k1 91 e ha;have s3:=s1 (k+1) (k1+1) 58 (by omega) (by omega);intro l v q;unfold iE at q ⊢;rw[<-s2,<-s3];split at q
 .grind [iJ]
 .split at q
  .cases q
  .rename_i l0 x hb;obtain⟨l1,j1,j2,j3⟩:=i2 k k1 e ha _ _ hb;have s4:=s1 l0 l1 45 j2 (by omega);have i4:=i2 (l0+1) (l1+1) (by omega) (by omega)
   grind [iJ]
theorem yY{k l:Nat}{m v:Nat->Bool}(q:iE s k m=.ok (l,v)):k<s.size:=by grind [iE,zY,-> aC]
theorem tm(h:Off s a t b):∀(n n' k k1:Nat) (m:Nat->Bool),k+b=k1+a->a<=k->t.size-k1<n'->iJ a b k (ia s n k m) (ia t n' k1 m)
 | 0,_,_,_,_,_,_,_=>fun l v q=>by cases q
 | n+1,0,_,_,_,_,_,hn=>absurd hn (by omega)
 | n+1,n'+1,k,k1,m,e,ha,hn=>by
  have h0:=h.ltE e ha;have i1:=yX (m:=m) h e ha;have ih:=tm h n n';have s1:=h.CW (x:=93) e ha;intro l v q;rw[ia] at q ⊢;rw[<-s1];split at q
  .grind
  .split at q
   .cases q
   .rename_i l0 m0 hi;obtain⟨l1,j1,j2,j3⟩:=i1 _ _ hi;have:=yY hi;have:=ih l0 l1 m0 j2 (by omega) (by omega)
    grind [iJ]
theorem Gz{k k1:Nat}(h:Off s a t b)(e:k+b=k1+a)(ha:a<=k)(hb:0<b):iJ a b k (gL s s.size k) (gL t t.size k1):=by
 have i1:∀l l1,l+b=l1+a->a<=l->iJ a b (l+1) (iE s l dq) (iE t l1 dq):=fun l l1=>yX h;have i2:=tm h s.size t.size;have s1:=h.CW (x:=94) e ha;obtain⟨c,d,f1,f2,f3,f4⟩:∃c d,(if saw s k 94=true then k+1 else k)=c/\(if saw s k 94=true then k1+1 else k1)=d/\c+b=d+a/\k<=c:=by grind
 intro l v q;unfold gL at q ⊢;rw[<-s1,f2];rw[f1] at q;split at q
 .cases q
 .rename_i l0 m0 hi;obtain⟨l1,j1,j2,j3⟩:=i1 c d f3 (by omega) _ _ hi;have:=(h.ltE f3 (by omega)).1 (yY hi);have:=i2 l0 l1 m0 j2 (by omega) (by omega)
  grind [iJ]
theorem Dx{k k1:Nat}(h:Off s a t b)(e:k+b=k1+a)(ha:a<=k):iJ a b k (Jt s k) (Jt t k1):=by
 grind [iJ,Jt,Off.digE,Off.dgPE]
theorem upP_off{k k1 a1:Nat}(h:Off s a t b)(e:k+b=k1+a)(ha:a<=k):iJ a b k (upP s k a1) (upP t k1 a1):=by
 have i1:=Dx h e ha
 grind [iJ,upP,Off.CW,Off.digE,Off.ltE]
theorem O8{k k1:Nat}(h:Off s a t b)(e:k+b=k1+a)(ha:a<=k):iJ a b k (O9 s k) (O9 t k1):=by
 have i1:=Dx h e ha;have i2:∀l l1 v,l+b=l1+a->a<=l->iJ a b l (upP s l v) (upP t l1 v):=fun l l1 v=>upP_off h;intro l v q;unfold O9 at q ⊢;split at q
 .cases q
 .rename_i l0 x hi;obtain⟨l1,j1,j2,j3⟩:=i1 _ _ hi;have s1:∀l l1 x,l+b=l1+a->a<=l->saw s l x=saw t l1 x:=fun l l1 x=>h.CW;have s2:=s1 l0 l1 44 j2 (by omega);have s3:=s1 l0 l1 125 j2 (by omega);have:=i2 (l0+1) (l1+1) x (by omega) (by omega)
  grind [iJ]
theorem MJ{k k1:Nat}(h:Off s a t b)(e:k+b=k1+a)(ha:a<=k):iJ a b k (Df s k) (Df t k1):=by
 have i2:=O8 (k:=k+1) (k1:=k1+1) h (by omega) (by omega)
 grind [iJ,Df,Off.CW]
theorem Ea(h:Off s a t b)(hb:0<b):∀n:Nat,(∀k k1 g,k+b=k1+a->a<=k->iJ a b k (lI s n k g) (lI t n k1 g))/\(∀k k1 g,k+b=k1+a->a<=k->iJ a b k (gK s n k g) (gK t n k1 g))/\(∀k k1 g,k+b=k1+a->a<=k->iJ a b k (xP s n k g) (xP t n k1 g))/\(∀k k1 g,k+b=k1+a->a<=k->iJ a b k (jo s n k g) (jo t n k1 g))/\(∀k k1 g,k+b=k1+a->a<=k->iJ a b k (Aq s n k g) (Aq t n k1 g))
 | 0=>by grind [iJ,lI,gK,xP,jo,Aq]
 | n+1=>by
  obtain⟨h1,h2,h3,h4,h5⟩:=Ea h hb n;refine⟨fun k k1 g e ha=>?_,fun k k1 g e ha=>?_,fun k k1 g e ha=>?_,fun k k1 g e ha=>?_,fun k k1 g e ha=>?_⟩
  .have i1:=Gz (k:=k+1) (k1:=k1+1) h (by omega) (by omega) hb;have i2:=D8 (br:=iM) (bh:=iX) h e ha;have i3:=h5 (k+1) (k1+1) (g+1) (by omega) (by omega);have s1:∀l l1 x,l+b=l1+a->a<=l->saw s l x=saw t l1 x:=fun l l1 x=>h.CW;have s2:=s1 k k1 40 e ha;have s3:=s1 k k1 46 e ha;have s4:=s1 k k1 91 e ha;intro l v q;rw[lI] at q ⊢;rw[<-s2,<-s3,<-s4]
   grind [iJ]
  .have i1:∀l l1,l+b=l1+a->a<=l->iJ a b l (Df s l) (Df t l1):=fun l l1=>MJ h;have i2:=h1 k k1 g e ha;have s2:=h.CW (x:=94) e ha;have s3:=h.CW (x:=36) e ha;intro l v q;rw[gK] at q ⊢;rw[<-s2,<-s3];split at q
   .grind
   .split at q
    .grind
    .split at q
     .cases q
     .rename_i l0 g0 x hi;obtain⟨l1,j1,j2,j3⟩:=i2 _ _ hi;have:=i1 l0 l1 j2 (by omega)
      grind [iJ]
  .have i2:=h2 k k1 g e ha;have i3:=h.ltE e ha;have s2:=h.CW (x:=124) e ha;have s3:=h.CW (x:=41) e ha;intro l v q;rw[xP] at q ⊢;rw[<-s2,<-s3];split at q
   .split at q
    .cases q
    .rename_i l0 g0 x hi;obtain⟨l1,j1,j2,j3⟩:=i2 _ _ hi;have:=h3 l0 l1 g0 j2 (by omega)
     grind [iJ]
   .grind
  .have i2:=h3 (k+1) (k1+1) g (by omega) (by omega);have s2:=h.CW (x:=124) e ha;intro l v q;rw[jo] at q ⊢;rw[<-s2];split at q
   .split at q
    .cases q
    .rename_i l0 g0 x hi;obtain⟨l1,j1,j2,j3⟩:=i2 _ _ hi;have:=h4 l0 l1 g0 j2 (by omega)
     grind [iJ]
   .grind
  .have i2:=h3 k k1 g e ha;intro l v q;rw[Aq] at q ⊢;split at q
   .cases q
   .rename_i l0 g0 x hi;obtain⟨l1,j1,j2,j3⟩:=i2 _ _ hi;have:=h4 l0 l1 g0 j2 (by omega)
    grind [iJ]
theorem IV(h:Off s a t b)(hb:0<b){r:Nat×Pn}(q:iP s a=.ok r):iP t b=.ok r:=by
 have hz:=h.size;have hz2:=h.2;have i:=(Ea h hb (4*(s.size-a)+4)).2.2.2.2 a b 0 (by omega) (by omega);have e:4*(t.size-b)+4=4*(s.size-a)+4:=by omega
 grind [iJ,iP]
end
def apB(x:ByteArray):ByteArray:=if x.size=0 then noB else ⟨#[32]⟩++x
def uO(n:Nat):ByteArray:=if n=0 then noB else ba (Lib.decDigits n)
def eE.txt:eE->ByteArray
 | .num n=>ba (Lib.decDigits n)
 | .last=>⟨#[36]⟩
 | .pat q=>⟨#[47]⟩++q.txt++⟨#[47]⟩
def aH.flg1(c:aH):ByteArray:=(if c.all then ⟨#[103]⟩ else noB)++uO c.number
def aH.flg2(c:aH):ByteArray:=if c.print then c.flg1++⟨#[112]⟩ else c.flg1
def aH.flg(c:aH):ByteArray:=if c.name.size=0 then c.flg2 else c.flg2++(⟨#[119]⟩++apB c.name)
def aH.opr(c:aH):ByteArray:=
 if c.what=58\/c.what=98\/c.what=116 then apB c.label
 else if c.what=119 then apB c.name
 else if c.what=97\/c.what=105\/c.what=99 then apB c.text.src
 else if c.what=113 then apB (uO c.status)
 else if c.what=115 then ⟨#[47]⟩++(match c.pat with|some q=>q.txt|none=>noB)++⟨#[47]⟩++c.new.src++⟨#[47]⟩++c.flg
 else if c.what=121 then ⟨#[47]⟩++c.jM.src++⟨#[47]⟩++c.yto.src++⟨#[47]⟩
 else noB
def ep:List eE->List UInt8
 | []=>[]
 | a::l=>a.txt.data.toList++l.flatMap fun b=>44::b.txt.data.toList
def aH.txt(c:aH):List UInt8:=ep c.fw++((if c.neg then [33] else [])++(UInt8.ofNat c.what::(c.opr.data.toList++[10])))
def fN.txt(S:fN):List UInt8:=(if S.quiet then [35,110,10] else [])++S.aD.flatMap aH.txt
structure gE(c:aH):Prop where
 lb:c.label.size<=2000
 nm:c.name.size<=2000
 tx:c.text.src.size<=2000
 pt:∀q,c.pat=some q->q.txt.size<=2000
 nw:c.new.src.size<=2000
 yf:c.jM.src.size<=2000
 yt:c.yto.src.size<=2000
 ap:∀q,eE.pat q∈c.fw->q.txt.size<=2000
theorem MD{x:ByteArray}(h:x.size=0):x=noB:=by
 obtain⟨d⟩:=x;have:d=#[]:=Array.eq_empty_of_size_eq_zero h;rw[this]
theorem ne_nil{x:ByteArray}(h:¬x.size=0):x.toList.isEmpty=false:=by
 cases e:x.toList.isEmpty with
 | false=>rfl
 | true=>
  refine absurd ?_ h;have e:=List.isEmpty_iff.1 e;rw[toList_data] at e;show x.data.size=0;rw[<-QK,e]
  rfl
section
variable {w w0 wx:World}{lo hi sb:Nat}{σ:Sst}{S:fN}{ca co:Nat}{cv:List Value}{c:aH}
theorem Lr(x:ByteArray)(hx:x.size<=100000)(w:World):Calls Tryz.prog 109 #[.string x] w fun r w'=>r=.returned (.string (apB x))/\w'=w:=by
 by_cases h0:x.size=0
 .have e:=MD h0;subst e;go_enter Tryz.func109,Tryz.ntmps109
  go_wp2_with fail;go_ret;exact⟨rfl,rfl⟩
 .have hn:=ne_nil h0;have hs:¬9223372036854775807<1+x.size:=by omega
  have HE:Hid (apB x=⟨#[32]⟩++x):=hid (by unfold apB;rw[Qw h0]);go_enter Tryz.func109,Tryz.ntmps109
  go_wp2_with fail;go_ret;exact⟨by rw[HE.out];rfl,rfl⟩
theorem Dv(n:Nat)(hn:n<=1000000)(hp:Pow w):Calls Tryz.prog 110 #[.int .i64 n] w fun r w'=>r=.returned (.string (uO n))/\Kp [] w w':=by
 by_cases h0:n=0
 .subst h0;go_enter Tryz.func110,Tryz.ntmps110
  go_wp2_with fail;go_ret;exact⟨rfl,Kp.refl _ _⟩
 .have HI:=JN (n:Int) (by omega) (by omega) w hp;rw[Lib.itoa_nonneg] at HI;have HI:=hid HI;have hq:((n:Int)==0)=false:=by rw[Qz];omega
  have HE:Hid (uO n=ba (Lib.decDigits n)):=hid (by unfold uO;rw[Qw h0]);go_enter Tryz.func110,Tryz.ntmps110
  go_wp2_with fail;refine HI.out.mono ?_;rintro r w1 ⟨rfl,kk,os,hw⟩;have K1:Hid (Kp [] w w1):=hid (by rw[hw];exact gi _ _ _);clear hw;go_wp2_with fail;go_ret;exact⟨by rw[HE.out];rfl,K1.out⟩
theorem uN(n:Nat)(h:n<=1000000):(uO n).size<=8:=by
 unfold uO;split
 .exact QG _
 .rw[ay];exact ji 7 n (by omega)
theorem tO(x:ByteArray):(apB x).size<=1+x.size:=by
 unfold apB;split
 .exact QG _
 .rw[Ra];exact QD _
theorem adrT_t(a:eE){fs:List (Nat×Obj)}{p o:Nat}{va:List Value}(hA:Qp fs a.A va)(hc:∀j u,va[j]? = some u->w.cell? ⟨p,o+j,none⟩=some u)(hp:Pow w)(hn:∀n,a=.num n->n<=1000000)(hq:∀q,a=.pat q->q.txt.size<=2000):Calls Tryz.prog 55 #[.pointer (some ⟨p,o,none⟩)] w fun r w'=>r=.returned (.string a.txt)/\Kp [] w w':=by
 cases a with
 | num n=>
  have hA:va=jq 0 n:=hA;subst hA;have c0:w.cell? ⟨p,o,none⟩=some (.int .i64 0):=hc 0 _ rfl;have c1:=hc 1 _ rfl;have hn:=hn n rfl;have HI:=JN (n:Int) (by omega) (by omega) w hp;rw[Lib.itoa_nonneg] at HI;replace HI:=hid HI;clear hc hq hp;go_enter Tryz.func55,Tryz.ntmps55
  go_wp2_with fail;refine HI.out.mono ?_;rintro r w1 ⟨rfl,kk,os,hw⟩;have K1:Hid (Kp [] w w1):=hid (by rw[hw];exact gi _ _ _);clear hw;go_wp2_with fail;go_ret;exact⟨rfl,K1.out⟩
 | last=>
  have hA:va=jq 1 0:=hA;subst hA;have c0:w.cell? ⟨p,o,none⟩=some (.int .i64 1):=hc 0 _ rfl;clear hc hq hp;go_enter Tryz.func55,Tryz.ntmps55
  go_wp2_with fail;go_ret;exact⟨rfl,Kp.refl _ _⟩
 | pat q=>
  obtain⟨pb,g,o1,o2,rfl,_⟩:=hA;have c0:w.cell? ⟨p,o,none⟩=some (.int .i64 2):=hc 0 _ rfl;have c3:=hc 3 _ rfl;have hz:=hq q rfl;obtain⟨X,hX⟩:∃X,X=q.txt:=⟨_,rfl⟩;rw[<-hX] at c3 hz;have HE:Hid (eE.txt (.pat q)=⟨#[47]⟩++X++⟨#[47]⟩):=hid (by rw[hX];rfl);have q1:¬9223372036854775807<1+X.size:=by omega
  have q2:¬9223372036854775807<1+X.size+1:=by omega
  clear hc hq hp hX hn;go_enter Tryz.func55,Tryz.ntmps55
  go_wp2_with fail;go_ret;exact⟨by rw[HE.out];rfl,Kp.refl _ _⟩
theorem P9(hn:c.number<=1000000)(hm:c.name.size<=2000):c.flg.size<=3000:=by
 have h0:(if c.all then (⟨#[103]⟩:ByteArray) else noB).size<=1:=by
  split
  .exact QD _
  .exact QG _
 have h1:c.flg1.size<=9:=by
  have:=uN c.number hn;unfold aH.flg1;rw[Ra];omega
 have h2:c.flg2.size<=10:=by
  unfold aH.flg2;split
  .rw[Ra];show c.flg1.size+1<=10;omega
  .omega
 unfold aH.flg;split
 .omega
 .have:=tO c.name;rw[Ra,Ra];show c.flg2.size+(1+(apB c.name).size)<=3000;omega
structure CmdC(fs:List (Nat×Obj))(w:World)(ca co:Nat)(c:aH):Prop where
 cell:∃cv,rq fs cv c/\∀j u,cv[j]? = some u->w.cell? ⟨ca,co+j,none⟩=some u
 blk:ca<w.heap.size
 fx:∀f∈fs,w.heap[f.1]? = some f.2
theorem CmdC.aj{fs:List (Nat×Obj)}{w w':World}{ca co:Nat}{c:aH}(h:CmdC fs w ca co c)(k:Kp [] w w'):CmdC fs w' ca co c:=by
 obtain⟨cv,h1,h2⟩:=h.cell;exact⟨⟨cv,h1,fun j u hu=>(k.cell (p:=⟨ca,co+j,none⟩) h.blk (by simp)).trans (h2 j u hu)⟩,Qx h.blk k.size,fun f hf=>(k.block f.1 (aN (h.fx f hf)) (by simp)).trans (h.fx f hf)⟩
variable {fs:List (Nat×Obj)}
theorem flags_c(h:CmdC fs w ca co c)(hs:gE c)(hp:Pow w)(hn:c.number<=1000000):Calls Tryz.prog 111 #[.pointer (some ⟨ca,co,none⟩)] w fun r w'=>r=.returned (.string c.flg)/\Kp [] w w':=by
 obtain⟨cv,hI,hc⟩:=h.cell;have c6:=hc 6 _ hI.rest.c6;have c16:=hc 16 _ hI.rest.c16;have c17:=hc 17 _ hI.rest.c17;have c18:=hc 18 _ hI.rest.c18;have hbl:=h.blk;have hz:=hs.nm;have HN:=hid (Dv c.number hn hp);have HAP:Hid (∀w,Calls Tryz.prog 109 #[.string c.name] w fun r w'=>r=.returned (.string (apB c.name))/\w'=w):=hid (fun w=>Lr c.name (by omega) w);obtain⟨N,hN⟩:∃N,N=uO c.number:=⟨_,rfl⟩;obtain⟨AP,hAP⟩:∃AP,AP=apB c.name:=⟨_,rfl⟩;obtain⟨nm,hnm⟩:∃nm,nm=c.name:=⟨_,rfl⟩;obtain⟨nu,hnu⟩:∃nu,nu=c.number:=⟨_,rfl⟩;have zN:N.size<=8:=by rw[hN];exact uN _ hn
 have zA:AP.size<=2001:=by rw[hAP];have:=tO c.name;omega
 have HF:Hid (c.flg=if nm.size=0 then (if c.print then (if c.all then ⟨#[103]⟩ else noB)++N++⟨#[112]⟩ else (if c.all then ⟨#[103]⟩ else noB)++N) else (if c.print then (if c.all then ⟨#[103]⟩ else noB)++N++⟨#[112]⟩ else (if c.all then ⟨#[103]⟩ else noB)++N)++(⟨#[119]⟩++AP)):=hid (by rw[hN,hAP,hnm];rfl);rw[<-hN,<-hnu] at HN;rw[<-hAP,<-hnm] at HAP;rw[<-hnm] at c6 hz;rw[<-hnu] at c17;obtain⟨R,hR⟩:∃R,R=c.flg:=⟨_,rfl⟩;rw[<-hR] at HF ⊢;have q1:¬9223372036854775807<N.size:=by omega
 have q2:¬9223372036854775807<1+N.size:=by omega
 have q3:¬9223372036854775807<N.size+1:=by omega
 have q4:¬9223372036854775807<1+N.size+1:=by omega
 have q5:¬9223372036854775807<1+AP.size:=by omega
 have q6:¬9223372036854775807<N.size+(1+AP.size):=by omega
 have q7:¬9223372036854775807<1+N.size+(1+AP.size):=by omega
 have q8:¬9223372036854775807<N.size+1+(1+AP.size):=by omega
 have q9:¬9223372036854775807<1+N.size+1+(1+AP.size):=by omega
 have hn0:nm.size=0/\nm.toList.isEmpty=true\/¬nm.size=0/\nm.toList.isEmpty=false:=by
  by_cases e:nm.size=0
  .exact .inl ⟨e,by rw[MD e,toList_data];rfl⟩
  .exact .inr ⟨e,ne_nil e⟩
 obtain⟨al,hal⟩:∃al,al=c.all:=⟨_,rfl⟩;obtain⟨pr,hpr⟩:∃pr,pr=c.print:=⟨_,rfl⟩;rw[<-hal,<-hpr] at HF;rw[<-hal] at c16;rw[<-hpr] at c18;have K0:∀w1,Kp [] w w1->w1.cell? ⟨ca,co+6,none⟩=some (.string nm)/\w1.cell? ⟨ca,co+18,none⟩=some (.bool pr):=fun w1 k1=>⟨(k1.cell (p:=⟨ca,co+6,none⟩) hbl (by simp)).trans c6,(k1.cell (p:=⟨ca,co+18,none⟩) hbl (by simp)).trans c18⟩
 have HK:=hid K0;clear h hI hc hbl hs hp hn hN hAP hnm hnu hR hal hpr K0 c6 c18
 cases al<;>cases pr<;>rcases hn0 with⟨n0,n1⟩|⟨n0,n1⟩
 all_goals
  go_enter Tryz.func111,Tryz.ntmps111
  go_wp2_with fail;refine HN.out.mono ?_;rintro r w1 ⟨rfl,k1⟩;obtain⟨d6,d18⟩:=HK.out w1 k1;go_wp2_with (go_at_call 109;refine(HAP.out _).mono ?_;rintro r w2 ⟨rfl,rfl⟩)
  go_ret;refine⟨?_,k1⟩
  first
   | (rw[HF.out,QB n0];rfl)
   | (rw[HF.out,Qw n0];rfl)
theorem Jf(h:CmdC fs w ca co c)(hs:gE c)(hp:Pow w)(hn:c.number<=1000000)(ht:c.status<=255)(hx:c.what<256)(hsp:c.what=115->c.pat≠none):Calls Tryz.prog 56 #[.pointer (some ⟨ca,co,none⟩)] w fun r w'=>r=.returned (.string c.opr)/\Kp [] w w':=by
 obtain⟨cv,hI,hc⟩:=h.cell;have HFL:Hid (∀wx,Kp [] w wx->Calls Tryz.prog 111 #[.pointer (some ⟨ca,co,none⟩)] wx fun r w'=>r=.returned (.string c.flg)/\Kp [] wx w'):=hid (fun wx kx=>flags_c (h.aj kx) hs (hp.aj kx) hn);have HNS:=hid (Dv c.status (by omega) hp);have HAP:Hid (∀x:ByteArray,x.size<=100000->∀w,Calls Tryz.prog 109 #[.string x] w fun r w'=>r=.returned (.string (apB x))/\w'=w):=hid (fun x hx w=>Lr x hx w);have c3:=hc 3 _ hI.c3;have c4:=hc 4 _ hI.rest.c4;have c6:=hc 6 _ hI.rest.c6;have c8:=hc 8 _ hI.rest.c8;have c9:=hc 9 _ hI.rest.c9;have c13:=hc 13 _ hI.rest.c13;have c19:=hc 19 _ hI.rest.c19;have c21:=hc 21 _ hI.rest.c21;have hbl:=h.blk;have z4:=hs.lb;have z6:=hs.nm;have z9:=hs.tx;have z13:=hs.nw;have z19:=hs.yf;have z21:=hs.yt;have HR:Hid (c.opr=c.opr):=hid rfl;unfold aH.opr at HR;obtain⟨R,hR⟩:∃R,R=c.opr:=⟨_,rfl⟩;rw[<-hR];obtain⟨x,hxw⟩:∃x,x=c.what:=⟨_,rfl⟩;have HD:x=58\/x=98\/x=116\/x=119\/x=97\/x=105\/x=99\/x=113\/x=115\/x=121\/(¬x=58/\¬x=98/\¬x=116/\¬x=119/\¬x=97/\¬x=105/\¬x=99/\¬x=113/\¬x=115/\¬x=121):=by omega
 have HO:R=if x=58\/x=98\/x=116 then apB c.label
  else if x=119 then apB c.name
  else if x=97\/x=105\/x=99 then apB c.text.src
  else if x=113 then apB (uO c.status)
  else if x=115 then ⟨#[47]⟩++(match c.pat with|some q=>q.txt|none=>noB)++⟨#[47]⟩++c.new.src++⟨#[47]⟩++c.flg
  else if x=121 then ⟨#[47]⟩++c.jM.src++⟨#[47]⟩++c.yto.src++⟨#[47]⟩
  else noB:=by rw[hR,hxw];rfl
 rw[<-hxw] at c3 hsp;clear HR hR;rcases HD with rfl|rfl|rfl|rfl|rfl|rfl|rfl|rfl|rfl|rfl|HD
 case inr.inr.inr.inr.inr.inr.inr.inr.inr.inr=>
  obtain⟨n1,n2,n3,n4,n5,n6,n7,n8,n9,n10⟩:=HD;rw[Qw (by omega),Qw n4,Qw (by omega),Qw n8,Qw n9,Qw n10] at HO;subst HO;have b1:((x:Int)==58)=false:=by rw[Qz];omega
  have b2:((x:Int)==98)=false:=by rw[Qz];omega
  have b3:((x:Int)==116)=false:=by rw[Qz];omega
  have b4:((x:Int)==119)=false:=by rw[Qz];omega
  have b5:((x:Int)==97)=false:=by rw[Qz];omega
  have b6:((x:Int)==105)=false:=by rw[Qz];omega
  have b7:((x:Int)==99)=false:=by rw[Qz];omega
  have b8:((x:Int)==113)=false:=by rw[Qz];omega
  have b9:((x:Int)==115)=false:=by rw[Qz];omega
  have b10:((x:Int)==121)=false:=by rw[Qz];omega
  clear hxw hx n1 n2 n3 n4 n5 n6 n7 n8 n9 n10 hsp;go_enter Tryz.func56,Tryz.ntmps56
  go_wp2_with fail;go_ret;exact⟨rfl,Kp.refl _ _⟩
 case inr.inr.inr.inr.inr.inr.inr.inr.inl=>
  obtain⟨q,hq⟩:=Option.ne_none_iff_exists'.1 (hsp rfl);have hP:=hI.rest.c11;rw[hq] at hP HO;replace HO:R=⟨#[47]⟩++q.txt++⟨#[47]⟩++c.new.src++⟨#[47]⟩++c.flg:=HO;obtain⟨v,t,e1,e2,pb,g,o1,o2,rfl,rfl,_⟩:=hP;have c12:=hc 12 _ e2;have zq:=hs.pt q hq;have zf:=P9 hn z6;obtain⟨T,hT⟩:∃T,T=q.txt:=⟨_,rfl⟩;obtain⟨NW,hNW⟩:∃NW,NW=c.new.src:=⟨_,rfl⟩;obtain⟨FG,hFG⟩:∃FG,FG=c.flg:=⟨_,rfl⟩;rw[<-hT,<-hNW,<-hFG] at HO;rw[<-hT] at c12 zq;rw[<-hNW] at c13 z13;rw[<-hFG] at zf HFL;have q1:¬9223372036854775807<1+T.size:=by omega
  have q2:¬9223372036854775807<1+T.size+1:=by omega
  have q3:¬9223372036854775807<1+T.size+1+NW.size:=by omega
  have q4:¬9223372036854775807<1+T.size+1+NW.size+1:=by omega
  have q5:¬9223372036854775807<1+T.size+1+NW.size+1+FG.size:=by omega
  have HK:Hid (∀w1,Kp [] w w1->w1.cell? ⟨ca,co+12,none⟩=some (.string T)/\w1.cell? ⟨ca,co+13,none⟩=some (.string NW)):=hid (fun w1 k1=>⟨(k1.cell (p:=⟨ca,co+12,none⟩) hbl (by simp)).trans c12,(k1.cell (p:=⟨ca,co+13,none⟩) hbl (by simp)).trans c13⟩);obtain⟨d12,d13⟩:=HK.out w.drew (Kp.drew [] w);have HO2:=hid HO;clear hxw hx hsp HO hT hNW hFG hq e1 e2 hI hc h hs hp hn ht c12 c13 c4 c6 c8 c9 c19 c21;go_enter Tryz.func56,Tryz.ntmps56
  go_wp2_with fail;go_region_with (go_at_call 111;refine(HFL.out _ (Kp.drew [] w)).mono ?_;rintro r w1 ⟨rfl,k1⟩;obtain⟨e12,e13⟩:=HK.out w1 ((Kp.drew [] w).trans k1))
  all_goals
   go_wp2_with fail;go_ret;exact⟨by rw[HO2.out];rfl,(Kp.drew [] w).trans k1⟩
 case inr.inr.inr.inr.inr.inr.inr.inr.inr.inl=>
  simp at HO;obtain⟨T,hT⟩:∃T,T=c.jM.src:=⟨_,rfl⟩;obtain⟨NW,hNW⟩:∃NW,NW=c.yto.src:=⟨_,rfl⟩;rw[<-hT,<-hNW] at HO;rw[<-hT] at c19 z19;rw[<-hNW] at c21 z21;have q1:¬9223372036854775807<1+T.size:=by omega
  have q2:¬9223372036854775807<1+T.size+1:=by omega
  have q3:¬9223372036854775807<1+T.size+1+NW.size:=by omega
  have q4:¬9223372036854775807<1+T.size+1+NW.size+1:=by omega
  have d19:=((Kp.drew [] w).cell (p:=⟨ca,co+19,none⟩) hbl (by simp)).trans c19;have d21:=((Kp.drew [] w).cell (p:=⟨ca,co+21,none⟩) hbl (by simp)).trans c21;have HO2:=hid HO;clear hxw hx hsp HO hT hNW hI hc h hs hp hn ht c4 c6 c8 c9 c13 c19 c21;go_enter Tryz.func56,Tryz.ntmps56
  go_wp2_with fail;go_region_with fail
  all_goals
   go_wp2_with fail;go_ret;exact⟨by rw[HO2.out];rfl,Kp.drew [] w⟩
 case inr.inr.inr.inr.inr.inr.inr.inl=>
  simp at HO;have zn:(uO c.status).size<=100000:=by have:=uN c.status (by omega);omega
  subst HO;clear hxw hx hsp;go_enter Tryz.func56,Tryz.ntmps56
  go_wp2_with fail;refine HNS.out.mono ?_;rintro r w1 ⟨rfl,k1⟩;go_wp2_with fail;refine(HAP.out _ zn _).mono ?_;rintro r w2 ⟨rfl,rfl⟩;go_wp2_with fail;go_ret;exact⟨rfl,k1⟩
 all_goals
  simp at HO;subst HO;clear hxw hx hsp;go_enter Tryz.func56,Tryz.ntmps56
  go_wp2_with fail;refine(HAP.out _ (by omega) _).mono ?_;rintro r w2 ⟨rfl,rfl⟩;go_wp2_with fail;go_ret;exact⟨rfl,Kp.refl _ _⟩
end
theorem G7(L:List eE)(a:eE):ep (L++[a])=ep L++((if L.length=0 then [] else [44])++a.txt.data.toList):=by
 cases L with
 | nil=>simp[ep]
 | cons b l=>simp[ep]
theorem Lz{a:eE}(h1:∀n,a=.num n->n<=1000000)(h2:∀q,a=.pat q->q.txt.size<=2000):a.txt.size<=2002:=by
 cases a with
 | num n=>
  show(ba (Lib.decDigits n)).size<=_;rw[ay];have:=ji 7 n (by have:=h1 n rfl;omega);omega
 | last=>exact(by decide:(1:Nat)<=2002)
 | pat q=>
  have:=h2 q rfl;show(⟨#[47]⟩++q.txt++⟨#[47]⟩:ByteArray).size<=2002;rw[Ra,Ra];show 1+q.txt.size+1<=2002;omega
section
variable {w w0 wx:World}{lo hi sb b:Nat}{σ:Sst}{S:fN}{ca co:Nat}{cv:List Value}{c:aH}{fs:List (Nat×Obj)}{l:List UInt8}
theorem PL(hs:gE c)(hn:c.number<=1000000)(ht:c.status<=255):c.opr.size<=10000:=by
 have z1:=hs.lb;have z2:=hs.nm;have z3:=hs.tx;have z4:=hs.nw;have z5:=hs.yf;have z6:=hs.yt;have a1:=tO c.label;have a2:=tO c.name;have a3:=tO c.text.src;have a4:=tO (uO c.status);have a5:=uN c.status (by omega);have a6:=P9 hn z2;have a7:=hs.pt;unfold aH.opr;have s1:(⟨#[47]⟩:ByteArray).size=1:=rfl;have s0:noB.size=0:=rfl;split
 .omega
 split
 .omega
 split
 .omega
 split
 .omega
 split
 .cases e:c.pat with
  | none=>
   simp only[Ra,s1];omega
  | some q=>
   have:=a7 q e;simp only[Ra,s1];omega
 split
 .simp only[Ra,s1];omega
 .omega
structure Bd(w0:World)(b:Nat)(l:List UInt8)(w:World):Prop where
 bd:Bdr w0.heap.size b l w
 kp:Kp [] w0 w
theorem Bd.aj{w w':World}(h:Bd w0 b l w)(k:Kp [] w w'):Bd w0 b l w':=⟨h.bd.aj k,h.kp.trans k⟩
theorem Bd.byte{w:World}(h:Bd w0 b l w)(hl:l.length<=100000000000)(c:UInt8):Calls Tryz.prog 54 #[.pointer (some ⟨b,0,none⟩),.int .u8 (c.toNat:Int)] w fun e w'=>e=.returned .nilIface/\Bd w0 b (l++[c]) w':=
 (Av c h.bd hl h.kp.size).mono fun _ _ q=>⟨q.1,q.2.1,uV h.kp q.2.2⟩
theorem Bd.str{w:World}(h:Bd w0 b l w)(s:ByteArray)(hl:l.length+s.size<=100000000000):Calls Tryz.prog 36 #[.pointer (some ⟨b,0,none⟩),.string s] w fun e w'=>e=.returned (.tuple #[.int .i64 s.size,.nilIface])/\Bd w0 b (l++s.data.toList) w':=
 (tX s h.bd hl h.kp.size).mono fun _ _ q=>⟨q.1,q.2.1,uV h.kp q.2.2⟩
theorem tell_c(h:CmdC fs w0 ca co c)(hs:gE c)(hp:Pow w0)(hk:ig lo hi c)(hx:c.what<256)(hb:Bd w0 b l w)(hl:l.length<=90000000000):Calls Tryz.prog 37 #[.pointer (some ⟨ca,co,none⟩),.pointer (some ⟨b,0,none⟩)] w fun r w'=>r=.returned (.tuple #[])/\Bd w0 b (l++c.txt) w':=by
 obtain⟨cv,hI,hc⟩:=h.cell;obtain⟨v0,e0,hA⟩:=hI.c0;have c0:w0.cell? ⟨ca,co,none⟩=some v0:=hc 0 _ e0;have c2:=hc 2 _ hI.c2;have c3:=hc 3 _ hI.c3;have hbl:=h.blk;have hal:=hk.adr;have HOP:Hid (∀wx,Kp [] w0 wx->Calls Tryz.prog 56 #[.pointer (some ⟨ca,co,none⟩)] wx fun r w'=>r=.returned (.string c.opr)/\Kp [] wx w'):=hid (fun wx kx=>Jf (h.aj kx) hs (hp.aj kx) hk.nb hk.st hx hk.sp);obtain⟨A,n,cc,rfl,hnl,hat⟩:∃A n cc,v0=.slice A n cc/\n=c.fw.length/\∀(k:Nat) (a:eE),c.fw[k]? = some a->∃p,A=some ⟨p,0,none⟩/\∀wx,Kp [] w0 wx->Calls Tryz.prog 55 #[.pointer (some ⟨p,k*4,none⟩)] wx fun r w'=>r=.returned (.string a.txt)/\Kp [] wx w':=by
  rcases hA with⟨e,rfl⟩|⟨p,cc,cells,rfl,hm,hcs⟩
  .have:c.fw=[]:=List.map_eq_nil_iff.1 e;exact⟨none,0,0,rfl,by rw[this];rfl,fun k a h=>by rw[this] at h;cases h⟩
  .refine⟨_,_,cc,rfl,Q7 _,fun k a ha=>⟨p,rfl,fun wx kx=>?_⟩⟩;obtain⟨va,hva,hce⟩:=hcs k a.A (by rw[QX,ha];rfl);have hh:=(kx.block p (aN (h.fx _ hm)) (by simp)).trans (h.fx _ hm);have hm2:=QM ha;refine adrT_t a hva (fun j u hu=>?_) (hp.aj kx) (fun n e=>hk.nums n (by rw[<-e];exact hm2)) (fun q e=>hs.ap q (by rw[<-e];exact hm2));have:=hce j u hu;simp only[World.cell?,hh];rw[Nat.mul_comm];simpa using this
 have HAT:=hid hat;have HNL:=hid hnl;have HTL:Hid (∀(k:Nat) (a:eE),c.fw[k]? = some a->a.txt.size<=2002):=hid (fun k a ha=>Lz (fun n e=>hk.nums n (by rw[<-e];exact QM ha)) (fun q e=>hs.ap q (by rw[<-e];exact QM ha)));have zop:=PL hs hk.nb hk.st;have hn2:n<=2:=by omega
 have HK:Hid (∀w1,Kp [] w0 w1->w1.cell? ⟨ca,co,none⟩=some (.slice A n cc)/\w1.cell? ⟨ca,co+2,none⟩=some (.bool c.neg)/\w1.cell? ⟨ca,co+3,none⟩=some (.int .u8 c.what)):=hid (fun w1 k1=>⟨(k1.cell (p:=⟨ca,co,none⟩) hbl (by simp)).trans c0,(k1.cell (p:=⟨ca,co+2,none⟩) hbl (by simp)).trans c2,(k1.cell (p:=⟨ca,co+3,none⟩) hbl (by simp)).trans c3⟩);have HB:=hid hb;have HTX:Hid (c.txt=ep c.fw++((if c.neg then [33] else [])++(UInt8.ofNat c.what::(c.opr.data.toList++[10])))):=hid rfl;obtain⟨OP,hOP⟩:∃OP,OP=c.opr:=⟨_,rfl⟩;rw[<-hOP] at HOP HTX zop;obtain⟨ng,hng⟩:∃ng,ng=c.neg:=⟨_,rfl⟩;rw[<-hng] at HK HTX;obtain⟨x,hxx⟩:∃x:UInt8,x=UInt8.ofNat c.what:=⟨_,rfl⟩;have ex:c.what=x.toNat:=by
  rw[hxx];exact(QV hx).symm
 rw[<-hxx] at HTX;rw[ex] at HK;obtain⟨d0,_⟩:=HK.out w hb.kp;clear h hs hp hk hx hb hI hc e0 hA c0 c2 c3 hbl hat hnl hOP hng hxx ex;go_enter Tryz.func37,Tryz.ntmps37
 go_wp2_with fail;go_loopw [10,4] (fun v _ wr=>∃k:Nat,k<=n/\v=.int .i64 k/\Hid (Bd w0 b (l++ep (c.fw.take k)) wr)/\Hid ((ep (c.fw.take k)).length<=k*2003)) (fun v _ _=>3-(intOf v).toNat)
 case atStart=>exact⟨0,by omega,rfl,hid (by simpa[ep] using HB.out),hid (by simp[ep])⟩
 case round=>
  obtain⟨k,hk,rfl,HBK,HLK⟩:=hrel;by_cases hkn:k<n
  .obtain⟨a,ha⟩:∃a,c.fw[k]? = some a:=⟨_,QA (by rw[<-HNL.out];exact hkn)⟩;obtain⟨p,rfl,hca⟩:=HAT.out k a ha;have HCA:=hid hca;have hz:=HTL.out k a ha
   have HSN:Hid (ep (c.fw.take (k+1))=ep (c.fw.take k)++((if k=0 then [] else [44])++a.txt.data.toList)):=hid (by
    rw[Sc,ha,Option.toList_some,G7,Re,show min k c.fw.length=k by have:=HNL.out;omega])
   obtain⟨P,hP⟩:∃P,P=l++ep (c.fw.take k):=⟨_,rfl⟩;have hPl:P.length<=90000010000:=by
    rw[hP,Qy];have:=HLK.out;omega
   have HAL:Hid (a.txt.data.toList.length=a.txt.size):=hid QK;rw[<-hP] at HBK;have HPP:=hid hP;clear hca ha hP;obtain⟨T,hT⟩:∃T,T=a.txt:=⟨_,rfl⟩;rw[<-hT] at HCA hz HSN HAL;clear hT;obtain⟨k1,hk1⟩:∃k1:Nat,(k:Int)+1=(k1:Int):=⟨k+1,by omega⟩;have wk:=aa k1 (by omega);by_cases hk0:k=0
   .subst hk0;have HCA1:=hid (HCA.out wr HBK.out.kp);obtain⟨e0,_⟩:=HK.out wr HBK.out.kp;go_wp2_with fail;refine HCA1.out.mono ?_;rintro r w1 ⟨rfl,q1⟩;have HS1:=hid ((HBK.out.aj q1).str T (by omega));go_wp2_with fail;refine HS1.out.mono ?_;rintro r w2 ⟨rfl,B2⟩;have HB2:=hid B2;clear B2 q1;go_wp2_with fail;go_round
    case rel=>
     have e1:k1=0+1:=by omega
     subst e1;refine⟨0+1,by omega,by trivial,hid ?_,hid ?_⟩
     .rw[HSN.out,QB trivial,Rx,<-QJ,<-HPP.out];exact HB2.out
     .rw[HSN.out,QB trivial,Rx,Qy,HAL.out];have:=HLK.out;omega
    case measure=>simp[intOf]
   .have hk0':(0:Int)<(k:Int):=by omega
    have HBY:=hid (HBK.out.byte (by omega) 44);obtain⟨e0,_⟩:=HK.out wr HBK.out.kp;go_wp2_with fail;refine HBY.out.mono ?_;rintro r w1 ⟨rfl,B1⟩;obtain⟨e1,_⟩:=HK.out w1 B1.kp;have HCA1:=hid (HCA.out w1 B1.kp);have HB1:=hid B1;clear B1 HBY;go_wp2_with fail;refine HCA1.out.mono ?_;rintro r w2 ⟨rfl,q1⟩;have HS1:=hid ((HB1.out.aj q1).str T (by rw[Qy,QP];omega));go_wp2_with fail;refine HS1.out.mono ?_;rintro r w3 ⟨rfl,B2⟩;have HB2:=hid B2;clear B2 q1;go_wp2_with fail;go_round
    case rel=>
     have e1:k1=k+1:=by omega
     subst e1;refine⟨k+1,by omega,by trivial,hid ?_,hid ?_⟩
     .rw[HSN.out,Qw hk0,<-QJ,<-QJ,<-HPP.out];exact HB2.out
     .rw[HSN.out,Qw hk0,Qy,Qy,HAL.out,QP];have:=HLK.out;omega
    case measure=>simp[intOf];omega
  .have hkk:k=n:=by omega
   subst hkk;have HAL:Hid (ep (c.fw.take k)=ep c.fw):=hid (by rw[HNL.out,Rq]);rw[HAL.out] at HBK HLK;obtain⟨_,e2,e3⟩:=HK.out wr HBK.out.kp;obtain⟨P,hP⟩:∃P,P=l++ep c.fw:=⟨_,rfl⟩;have hPl:P.length<=90000010000:=by
    rw[hP,Qy];have:=HLK.out;omega
   rw[<-hP] at HBK;have HPP:=hid hP;have HOL:Hid (OP.data.toList.length=OP.size):=hid QK;clear hP;obtain⟨NG,hNG⟩:∃NG:List UInt8,NG=if ng then [33] else []:=⟨_,rfl⟩;have hNl:NG.length<=1:=by rw[hNG];split<;>simp
   rw[<-hNG] at HTX;have HNG:=hid hNG;clear hNG;go_upto_if 30 with fail
   go_cut [32] from 31 (fun _ wx=>Hid (Bd w0 b (P++NG) wx))
   case first=>
    cases ng with
    | true=>
     have HBY:=hid (HBK.out.byte (by omega) 33);go_wp2_with fail;refine HBY.out.mono ?_;rintro r w1 ⟨rfl,B1⟩;have HB1:=hid B1;clear B1;go_wp2_with fail;go_meet
     case rel=>exact hid (by rw[HNG.out];exact HB1.out)
    | false=>
     go_wp2_with fail;go_meet
     case rel=>exact hid (by rw[HNG.out];simpa using HBK.out)
   case rest=>
    obtain⟨_,_,f3⟩:=HK.out wc hcut.out.kp;have HBX:=hid (hcut.out.byte (by rw[Qy];omega) x);clear hcut;go_wp2_with fail;refine HBX.out.mono ?_;rintro r w2 ⟨rfl,B2⟩;have HO2:=hid (HOP.out w2 B2.kp);have HB2:=hid B2;clear B2 HBX;go_wp2_with fail;refine HO2.out.mono ?_;rintro r w3 ⟨rfl,q3⟩;have HS3:=hid ((HB2.out.aj q3).str OP (by simp only[Qy,QP];omega));go_wp2_with fail;refine HS3.out.mono ?_;rintro r w4 ⟨rfl,B4⟩;have HB4:=hid (B4.byte (by simp only[Qy,QP,HOL.out];omega) 10);clear B4;go_wp2_with fail;refine HB4.out.mono ?_;rintro r w5 ⟨rfl,B5⟩;have HB5:=hid B5;clear B5;go_wp2_with fail;go_end0;refine⟨rfl,?_⟩;have e:l++c.txt=P++NG++[x]++OP.data.toList++[10]:=by rw[HTX.out,HPP.out];simp
    rw[e];exact HB5.out
end
