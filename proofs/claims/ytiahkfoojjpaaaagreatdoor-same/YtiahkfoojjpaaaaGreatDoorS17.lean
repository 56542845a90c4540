import Derived.Test.YtiahkfoojjpaaaaGreatDoorS16
set_option maxRecDepth 100000
set_option maxHeartbeats 16000000
set_option linter.all false
namespace Go.Proofs.YtiahkfoojjpaaaaGreatDoor
open Go.RowKit
section
variable {w:World}{b k k1 l g pl least:Nat}{src:ByteArray}
def NumF(src:ByteArray)(k g pl:Nat):Prop:=∀(w:World) (b:Nat),Rd w b src k g->Calls Tryz.prog 200 #[.pointer (some ⟨b,0,none⟩)] w fun e w'=>e=Flt 2 pl/\Kp [b] w w'
def UpF(src:ByteArray)(k g pl least:Nat):Prop:=∀(w:World) (b:Nat),Rd w b src k g->Calls Tryz.prog 201 #[.pointer (some ⟨b,0,none⟩),.int .i64 least] w fun e w'=>e=Flt 2 pl/\Kp [b] w w'
def BndF(src:ByteArray)(k g pl:Nat):Prop:=∀(w:World) (b:Nat),Rd w b src k g->Calls Tryz.prog 192 #[.pointer (some ⟨b,0,none⟩)] w fun e w'=>e=Flt 2 pl/\Kp [b] w w'
theorem numF_no(h:dig src k=false):NumF src k g k:=by
 intro w b hr;go_enter Tryz.func200,Tryz.ntmps200
 go_wp2_with fail;refine(fS hr h).mono ?_;rintro e w1 ⟨rfl,r1,k1⟩;go_wp2_with fail;refine(dR r1).mono ?_;rintro e w2 ⟨rfl,k2⟩;go_wp2_with fail;exact⟨rfl,rfl,k1.trans (k2.mono (by simp))⟩
theorem Nv{v:Nat}(hk:k<src.size)(hk2:k+1<src.size)(d1:dig src k=true)(d2:dig src (k+1)=true)(hv:v=10*((src[k]'hk).toNat-48)+((src[k+1]'hk2).toNat-48))(hv2:20<v):NumF src k g (k+1):=by
 intro w b hr;have hsm:=hr.small;obtain⟨_,q1,q2⟩:=jv d1;obtain⟨_,q3,q4⟩:=jv d2;obtain⟨v1,hw1⟩:∃v1:Nat,v1=(src[k]).toNat-48:=⟨_,rfl⟩;have hsub:((src[k]).toNat:Int)-48=(v1:Int):=by omega
 have w1:=fI v1 (by omega);have w2:=aa v1 (by omega);have hcmp:¬(20:Int)<v1:=by omega
 obtain⟨k1,hk1⟩:∃k1:Nat,k1=k+1:=⟨_,rfl⟩;have hsum:(k:Int)+1=(k1:Int):=by omega
 have wk:=aa k1 (by omega);obtain⟨v2,hw2⟩:∃v2:Nat,v2=(src[k+1]).toNat-48:=⟨_,rfl⟩;obtain⟨t1,ht1⟩:∃t1:Nat,t1=10*v1:=⟨_,rfl⟩;have hmul:(10:Int)*(v1:Int)=(t1:Int):=by omega
 have w3:=aa t1 (by omega);have hk1s:k1<src.size:=by omega
 have e12:(src[k1]'hk1s)=src[k+1]:=by congr 1
 have hsub2:((src[k1]'hk1s).toNat:Int)-48=(v2:Int):=by rw[e12];omega
 have w4:=fI v2 (by omega);have hadd:(t1:Int)+(v2:Int)=(v:Int):=by omega
 have w5:=aa v (by omega);have hcmp2:(20:Int)<v:=by omega
 have w6:=aa v2 (by omega);rw[<-hk1] at d2 ⊢;have HV:=hid hk1;clear hv hw1 hw2 ht1 hk1 e12 q1 q2 q3 q4 hv2;go_enter Tryz.func200,Tryz.ntmps200
 go_wp2_with fail;refine(fS hr d1).mono ?_;rintro e u1 ⟨rfl,r1,s1⟩;go_wp2_with fail;refine wp_loop_rounds 3 ?_;rw[rounds_succ];go_wp2_with fail;refine(fS r1 d1).mono ?_;rintro e u2 ⟨rfl,r2,s2⟩;have c0:=r2.c0;have c1:=r2.c1;have f1:=r2.free 1;go_wp2_with fail;go_quiet (fail);have r3:=((r2.drewN nq).step hk);rw[hsum,show k+1=k1 from HV.out.symm] at r3;have s3:Kp [b] w ((u2.drewN nq).setCell ⟨b,1,none⟩ (.int .i64 (k1:Int))):=s1.trans (s2.trans ((Kp.drewN _ _ _).trans (Kp.setCell _ _ (by simp))));have R3:=hid (And.intro r3 s3);clear r3 s3 r1 s1 s2;go_wp2_with fail;rw[rounds_succ];go_wp2_with fail;refine(fS R3.out.1 d2).mono ?_;rintro e u4 ⟨rfl,r4,s4⟩;clear c0 c1 f1 r2;have c0:=r4.c0;have c1:=r4.c1;have S4:=hid (R3.out.2.trans s4);clear s4;go_wp2_with fail;go_quiet (fail);go_wp2_with fail;refine(dR (r4.drewN _)).mono ?_;rintro e u5 ⟨rfl,s5⟩;go_wp2_with fail;exact⟨rfl,rfl,S4.out.trans ((Kp.drewN _ _ _).trans (s5.mono (by simp)))⟩
theorem upF_num(h125:saw src k 125=false)(h:NumF src k g pl):UpF src k g pl least:=by
 intro w b hr;go_enter Tryz.func201,Tryz.ntmps201
 go_wp2_with fail;refine(eV 125 hr h125).mono ?_;rintro e u1 ⟨rfl,r1,s1⟩;go_wp2_with fail;refine(h u1 b r1).mono ?_;rintro e u2 ⟨rfl,s2⟩;go_wp2_with fail;exact⟨rfl,rfl,s1.trans s2⟩
theorem Pa(h:NumF src k g pl):BndF src k g pl:=by
 intro w b hr;go_enter Tryz.func192,Tryz.ntmps192
 go_wp2_with fail;refine(h w b hr).mono ?_;rintro e u1 ⟨rfl,s1⟩;go_wp2_with fail;exact⟨rfl,rfl,s1⟩
theorem Lh(hn:qQ src k k1 least)(h44:saw src k1 44=false)(h125:saw src k1 125=false):BndF src k g k1:=by
 intro w b hr;go_enter Tryz.func192,Tryz.ntmps192
 go_wp2_with fail;refine(dW hr hn).mono ?_;rintro e u1 ⟨rfl,r1,s1⟩;go_wp2_with fail;refine(aF 44 r1 h44).mono ?_;rintro e u2 ⟨rfl,r2,s2⟩;go_wp2_with fail;refine(gA 125 r2 h125).mono ?_;rintro e u3 ⟨rfl,s3⟩;go_wp2_with fail;exact⟨rfl,rfl,s1.trans (s2.trans s3)⟩
theorem Lg(hn:qQ src k k1 least)(h44:saw src k1 44=true)(h:UpF src (k1+1) g pl least):BndF src k g pl:=by
 intro w b hr;go_enter Tryz.func192,Tryz.ntmps192
 go_wp2_with fail;refine(dW hr hn).mono ?_;rintro e u1 ⟨rfl,r1,s1⟩;go_wp2_with fail;refine(aK 44 r1 h44).mono ?_;rintro e u2 ⟨rfl,r2,s2⟩;go_wp2_with fail;refine(h u2 b r2).mono ?_;rintro e u3 ⟨rfl,s3⟩;go_wp2_with fail;exact⟨rfl,rfl,s1.trans (s2.trans s3)⟩
theorem GW{most:Option Nat}(hn:qQ src k k1 least)(h44:saw src k1 44=true)(hu:UpOk src (k1+1) l least most)(h125:saw src l 125=false):BndF src k g l:=by
 intro w b hr;go_enter Tryz.func192,Tryz.ntmps192
 go_wp2_with fail;refine(dW hr hn).mono ?_;rintro e u1 ⟨rfl,r1,s1⟩;go_wp2_with fail;refine(aK 44 r1 h44).mono ?_;rintro e u2 ⟨rfl,r2,s2⟩;go_wp2_with fail;refine(xZ r2 hu).mono ?_;rintro e u3 ⟨rfl,r3,s3⟩;go_wp2_with fail;refine(gA 125 r3 h125).mono ?_;rintro e u4 ⟨rfl,s4⟩;go_wp2_with fail;exact⟨rfl,rfl,s1.trans (s2.trans (s3.trans s4))⟩
end
section
variable {w:World}{b k l g pl least:Nat}{src:ByteArray}
theorem Rd.goto(h:Rd w b src k g)(j:Nat)(hj:j<=src.size):Rd (w.setCell ⟨b,1,none⟩ (.int .i64 (j:Int))) b src j g:=by
 refine⟨by simpa[World.setCell] using h.lt,hj,h.small,?_,?_,?_,?_,fun i=>by simpa using h.free i⟩
 .rw[aq _ (by simp)];exact h.c0
 .rw[aw _ h.c1]
 .rw[aq _ (by simp)];exact h.ce
 .rw[aq _ (by simp)];exact h.c2
theorem Mg{m j:Nat}(h125:saw src k 125=false)(hn:qQ src k l m)(hlt:m<least)(hl:l<src.size)(hd:dig src l=false)(hj:j+1=l):UpF src k g j least:=by
 intro w b hr;have hsm:=hr.small;have hcmp:(m:Int)<(least:Int):=by omega
 have hcmp':decide ((m:Int)<(least:Int))=true:=by simpa using hlt
 have hcmp2:decide (m<least)=true:=by simpa using hlt
 have he:((l:Int)==(src.size:Int))=false:=by simp;omega
 have hsub:(l:Int)-1=(j:Int):=by omega
 have wj:=aa j (by omega);have HJ:Hid (j<=src.size):=hid (by omega);clear hj;go_enter Tryz.func201,Tryz.ntmps201
 go_wp2_with fail;refine(eV 125 hr h125).mono ?_;rintro e u1 ⟨rfl,r1,s1⟩;go_wp2_with fail;refine(dW r1 hn).mono ?_;rintro e u2 ⟨rfl,r2,s2⟩;go_wp2_with fail;refine(gB r2 he).mono ?_;rintro e u3 ⟨rfl,r3,s3⟩;go_wp2_with fail;refine(fS r3 hd).mono ?_;rintro e u4 ⟨rfl,r4,s4⟩;have c1:=r4.c1;have f1:=r4.free 1;have R5:=hid (r4.goto j HJ.out);have s5:Kp [b] u4 (u4.setCell ⟨b,1,none⟩ (.int .i64 (j:Int))):=Kp.setCell _ _ (by simp);go_wp2_with fail;refine(dR R5.out).mono ?_;rintro e u6 ⟨rfl,s6⟩;go_wp2_with fail;exact⟨rfl,rfl,s1.trans (s2.trans (s3.trans (s4.trans (s5.trans (s6.mono (by simp))))))⟩
def dM:ByteArray:=⟨#[92,91,93,45]⟩
def dN:ByteArray:=⟨#[92,91,93,45,94,47]⟩
end
inductive Pn where
 | one (m:Nat->Bool)
 | He (k:Nat)
 | group (g:Nat) (x:Pn)
 | rep (x:Pn) (least:Nat) (most:Option Nat)
 | row (l:List Pn)
 | brs (l:List Pn)
mutual
def Pn.pi:Pn->Pi
 | .one m=>I7 m
 | .He k=>Dq k
 | .group g x=>jB g x.pi
 | .rep x a b=>oD x.pi a b
 | .row l=>gW (piL l)
 | .brs l=>aW (piL l)
def piL:List Pn->List Pi
 | []=>[]
 | x::l=>x.pi::piL l
end
theorem uF:∀l:List Pn,(piL l).length=l.length
 | []=>rfl
 | x::l=>by simp[piL,uF l]
def escP(src behind:ByteArray)(k:Nat):Except Nat (Nat×Nat):=
 if saw src k 110 then .ok (k+1,10) else if saw src k 116 then .ok (k+1,9)
 else if h:k<src.size then (if Lib.indexByte behind.data.toList (src[k]'h)<0 then .error k else .ok (k+1,(src[k]'h).toNat)) else .error k
def zY(src barred behind:ByteArray)(k:Nat):Except Nat (Nat×Nat):=
 if saw src k 92 then escP src behind (k+1)
 else if h:k<src.size then (if saw src k 10 then .error k else if Lib.indexByte barred.data.toList (src[k]'h)<0 then .ok (k+1,(src[k]'h).toNat) else .error k) else .error k
def Lm(t:ByteArray):Bool:=(List.range 7).any fun i=>preB (nmN i) t
def isNm(t:ByteArray):Option Nat:=(List.range 7).find? fun i=>(nmN i).toList==t.toList
def lg(src:ByteArray)(f:Nat):Nat->Nat->Except Nat (Nat×Nat)
 | 0,k=>.error k
 | n+1,k=>if k<src.size/\Lm (src.extract f (k+1)) then
   (match isNm (src.extract f (k+1)) with
     | some i=>.ok (k+1,i)
     | none=>lg src f n (k+1))
  else .error k
def iE(src:ByteArray)(k:Nat)(m:Nat->Bool):Except Nat (Nat×(Nat->Bool)):=
 if saw src k 91 then
  if saw src (k+1) 58 then
   match lg src (k+2) (src.size+1) (k+2) with
   | .error pl=>.error pl
   | .ok (l,i)=>if saw src l 58 then (if saw src (l+1) 93 then .ok (l+2,xM m (nmS i).data.toList) else .error (l+1)) else .error l
  else .error (k+1)
 else match zY src dM dN k with
  | .error pl=>.error pl
  | .ok (l,x)=>if saw src l 45 then
    (match zY src dM dN (l+1) with
      | .error pl=>.error pl
      | .ok (l2,y)=>if y<x then .error (l+1) else .ok (l2,span m x (y+1)))
   else .ok (l,span m x (x+1))
def ia(src:ByteArray):Nat->Nat->(Nat->Bool)->Except Nat (Nat×(Nat->Bool))
 | 0,k,_=>.error k
 | n+1,k,m=>if saw src k 93 then .ok (k+1,m) else match iE src k m with
  | .error pl=>.error pl
  | .ok (l,m1)=>ia src n l m1
def gL(src:ByteArray)(n k:Nat):Except Nat (Nat×(Nat->Bool)):=
 match iE src (if saw src k 94 then k+1 else k) dq with
 | .error pl=>.error pl
 | .ok (l,m)=>match ia src n l m with
  | .error pl=>.error pl
  | .ok (l2,m2)=>.ok (l2,if saw src k 94 then fun x=>!m2 x else m2)
def dgP(src:ByteArray)(k:Nat):Nat:=if h:k<src.size then (src[k]'h).toNat-48 else 0
def Jt(src:ByteArray)(k:Nat):Except Nat (Nat×Nat):=
 if dig src k then
  if dig src (k+1) then (if 20<10*dgP src k+dgP src (k+1) then .error (k+1) else .ok (k+2,10*dgP src k+dgP src (k+1))) else .ok (k+1,dgP src k)
 else .error k
def upP(src:ByteArray)(k least:Nat):Except Nat (Nat×Option Nat):=
 if saw src k 125 then .ok (k,none) else match Jt src k with
  | .error pl=>.error pl
  | .ok (l,v)=>if v<least/\l<src.size/\dig src l=false then .error (l-1) else .ok (l,some v)
def O9(src:ByteArray)(k:Nat):Except Nat (Nat×Nat×Option Nat):=
 match Jt src k with
 | .error pl=>.error pl
 | .ok (l,a)=>if saw src l 44 then
   (match upP src (l+1) a with
     | .error pl=>.error pl
     | .ok (l2,b)=>if saw src l2 125 then .ok (l2+1,a,b) else .error l2)
  else if saw src l 125 then .ok (l+1,a,some a) else .error l
def Df(src:ByteArray)(k:Nat):Except Nat (Nat×Option (Nat×Option Nat)):=
 if saw src k 42 then .ok (k+1,some (0,none)) else if saw src k 43 then .ok (k+1,some (1,none)) else if saw src k 63 then .ok (k+1,some (0,some 1))
 else if saw src k 123 then (match O9 src (k+1) with
  | .error pl=>.error pl
  | .ok (l,a,b)=>.ok (l,some (a,b)))
 else .ok (k,none)
def Pn.times(x:Pn):Option (Nat×Option Nat)->Pn
 | none=>x
 | some (a,b)=>.rep x a b
mutual
def lI(src:ByteArray):Nat->Nat->Nat->Except Nat (Nat×Nat×Pn)
 | 0,k,_=>.error k
 | n+1,k,g=>if saw src k 40 then
   (if g=9 then .error k else match Aq src n (k+1) (g+1) with
     | .error pl=>.error pl
     | .ok (l,g',x)=>if saw src l 41 then .ok (l+1,g',.group (g+1) x) else .error l)
  else if saw src k 46 then .ok (k+1,g,.one fun x=>!dq x)
  else if saw src k 91 then (match gL src src.size (k+1) with
   | .error pl=>.error pl
   | .ok (l,m)=>.ok (l,g,.one m))
  else match zY src iM iX k with
   | .error pl=>.error pl
   | .ok (l,x)=>.ok (l,g,.one (span dq x (x+1)))
def gK(src:ByteArray):Nat->Nat->Nat->Except Nat (Nat×Nat×Pn)
 | 0,k,_=>.error k
 | n+1,k,g=>if saw src k 94 then .ok (k+1,g,.He 1) else if saw src k 36 then .ok (k+1,g,.He 2)
  else match lI src n k g with
   | .error pl=>.error pl
   | .ok (l,g',x)=>match Df src l with
    | .error pl=>.error pl
    | .ok (l2,r)=>.ok (l2,g',x.times r)
def xP(src:ByteArray):Nat->Nat->Nat->Except Nat (Nat×Nat×List Pn)
 | 0,k,_=>.error k
 | n+1,k,g=>if k<src.size/\saw src k 124=false/\saw src k 41=false then
   (match gK src n k g with
     | .error pl=>.error pl
     | .ok (l,g',x)=>match xP src n l g' with
      | .error pl=>.error pl
      | .ok (l2,g2,xs)=>.ok (l2,g2,x::xs))
  else .ok (k,g,[])
def jo(src:ByteArray):Nat->Nat->Nat->Except Nat (Nat×Nat×List Pn)
 | 0,k,_=>.error k
 | n+1,k,g=>if saw src k 124 then
   (match xP src n (k+1) g with
     | .error pl=>.error pl
     | .ok (l,g',xs)=>match jo src n l g' with
      | .error pl=>.error pl
      | .ok (l2,g2,ys)=>.ok (l2,g2,.row xs::ys))
  else .ok (k,g,[])
def Aq(src:ByteArray):Nat->Nat->Nat->Except Nat (Nat×Nat×Pn)
 | 0,k,_=>.error k
 | n+1,k,g=>match xP src n k g with
  | .error pl=>.error pl
  | .ok (l,g',xs)=>match jo src n l g' with
   | .error pl=>.error pl
   | .ok (l2,g2,ys)=>.ok (l2,g2,.brs (.row xs::ys))
end
def iP(src:ByteArray)(fr:Nat):Except (Nat×Nat) (Nat×Pn):=
 if 100+fr<src.size then .error (1,fr) else
 match Aq src (4*(src.size-fr)+4) fr 0 with
 | .error pl=>.error (2,pl)
 | .ok (l,g,x)=>if l<src.size then .error (2,l) else if 300<x.pi.sz then .error (3,src.size) else .ok (g,x)
def OutB{α:Type}(r:Except Nat α)(ok:α->Ending->World->Prop)(S:List Nat)(w:World)(e:Ending)(w':World):Prop:=
 match r with
 | .ok a=>ok a e w'
 | .error pl=>e=Flt 2 pl/\Kp S w w'
section
variable {w:World}{b k g pl:Nat}{src barred behind:ByteArray}
theorem MG{x:Int}(h:saw src k x=true):∃hk:k<src.size,((src[k]'hk).toNat:Int)=x:=by
 unfold saw at h;split at h
 .exact⟨by assumption,by simpa using h⟩
 .cases h
theorem Oo(behind:ByteArray)(hr:Rd w b src k g)(h:saw src k 116=true):Calls Tryz.prog 203 #[.pointer (some ⟨b,0,none⟩),.string behind] w fun e w'=>e=.returned (.int .u8 9)/\Rd w' b src (k+1) g/\Kp [b] w w':=by
 have h1:saw src k 110=false:=by
  obtain⟨hk,e⟩:=MG h;unfold saw;rw[dif_pos hk,e]
  rfl
 go_enter Tryz.func203,Tryz.ntmps203
 go_wp2_with fail;refine(aF 110 hr h1).mono ?_;rintro e w1 ⟨rfl,r1,k1⟩;go_wp2_with fail;refine(aK 116 r1 h).mono ?_;rintro e w2 ⟨rfl,r2,k2⟩;go_wp2_with fail;go_ret;exact⟨rfl,r2,k1.trans k2⟩
theorem byte_t{barred behind:ByteArray}(h92:saw src k 92=true)(h:saw src (k+1) 116=true):qT b src barred behind k (k+1+1) g 9:=by
 intro w hr;go_enter Tryz.func196,Tryz.ntmps196
 go_wp2_with fail;refine(aK 92 hr h92).mono ?_;rintro e w1 ⟨rfl,r1,k1⟩;go_wp2_with fail;refine(Oo behind r1 h).mono ?_;rintro e w2 ⟨rfl,r2,k2⟩;go_wp2_with fail;go_ret;exact⟨rfl,r2,k1.trans k2⟩
theorem ze(l:List UInt8)(c:UInt8)(h:Lib.indexByte l c<0):Lib.indexByte l c = -1:=by have:=Lib.indexByte_ge l c;omega
theorem OY(hle:k<=src.size):match zY src barred behind k with
  | .ok (l,x)=>x<256/\k<l/\l<=src.size/\∀b g,qT b src barred behind k l g x
  | .error pl=>∀g,Hb src barred behind k g pl:=by
 unfold zY
 cases h92:saw src k 92
 .rw[Qw (by simp)];by_cases hk:k<src.size
  .rw[dif_pos hk]
   cases h10:saw src k 10
   .rw[Qw (by simp)];by_cases hx:Lib.indexByte barred.data.toList src[k]<0
    .rw[QB hx];exact⟨Rc _,by omega,by omega,fun b g=>GS hk h92 h10 (ze _ _ hx)⟩
    .rw[Qw hx];exact fun g=>Lb hk h92 h10 rfl (by omega)
   .rw[QB rfl];exact fun g=>OX hk h92 h10
  .rw[dif_neg hk];exact fun g=>La (by omega)
 .rw[QB rfl];have hk:=aC h92;unfold escP
  cases h110:saw src (k+1) 110
  .rw[Qw (by simp)]
   cases h116:saw src (k+1) 116
   .rw[Qw (by simp)];by_cases hk1:k+1<src.size
    .rw[dif_pos hk1];by_cases hx:Lib.indexByte behind.data.toList src[k+1]<0
     .rw[QB hx];exact fun g=>zX h92 (escF_c hk1 h110 h116 rfl hx)
     .rw[Qw hx];exact⟨Rc _,by omega,by omega,fun b g=>byte_c h92 hk1 h110 h116 rfl (by omega)⟩
    .rw[dif_neg hk1];exact fun g=>zX h92 (Ov (by omega))
   .rw[QB rfl];have:=aC h116;exact⟨by omega,by omega,by omega,fun b g=>byte_t h92 h116⟩
  .rw[QB rfl];have:=aC h110;exact⟨by omega,by omega,by omega,fun b g=>byte_n h92 h110⟩
theorem oy(t:ByteArray)(w:World)(ht:t.size<=3000)(hw:Nm w):Calls Tryz.prog 206 #[.string t] w fun e w'=>e=.returned (.bool (Lm t))/\w'=w:=by
 go_enter Tryz.func206,Tryz.ntmps206
 go_wp2;go_loop [4] (fun v=>∃k:Nat,k<=7/\v=.int .i64 k/\Hid (∀j,j<k->preB (nmN j) t=false)) (fun v=>7-(intOf v).toNat)
 case atStart=>exact⟨0,by omega,rfl,hid (fun j hj=>by omega)⟩
 case round=>
  obtain⟨k,hk,rfl,HJ⟩:=hrel;by_cases hlt:k<7
  .have hc:=hw.name k hlt;have HZ:Hid _:=Nx k
   cases hb:preB (nmN k) t
   .go_wp2_with (go_at_call 102;refine(ly _ _ _ (by rw[HZ.out];omega) ht).mono ?_;rintro e w1 ⟨rfl,rfl⟩)
    go_round
    case rel=>
     refine⟨k+1,by omega,by go_num,hid (fun j hj=>?_)⟩;by_cases e:j=k
     .rw[e];exact hb
     .exact HJ.out j (by omega)
    case measure=>simp[intOf];omega
   .have HA:Hid (Lm t=true):=hid (List.any_eq_true.2 ⟨k,List.mem_range.2 hlt,hb⟩);go_wp2_with (go_at_call 102;refine(ly _ _ _ (by rw[HZ.out];omega) ht).mono ?_;rintro e w1 ⟨rfl,rfl⟩)
    go_ret;exact⟨by rw[HA.out];rfl,rfl⟩
  .have e7:k=7:=by omega
   subst e7;have HA:Hid (Lm t=false):=hid (List.any_eq_false.2 (fun x hx=>by simp[HJ.out x (List.mem_range.1 hx)]));clear HJ hlt hk;go_wp2;go_ret;exact⟨by rw[HA.out];rfl,rfl⟩
def NameO(b:Nat)(src:ByteArray)(g:Nat)(w:World)(p:Nat×Nat)(e:Ending)(w':World):Prop:=e=.returned (.string (nmS p.2))/\Rd w' b src p.1 g/\Kp [b] w w'
theorem name_g{f:Nat}(hr:Rd w b src f g)(hw:Nm w)(hb0:b≠4):Calls Tryz.prog 205 #[.pointer (some ⟨b,0,none⟩)] w (OutB (lg src f (src.size+1) f) (NameO b src g w) [b] w):=by
 obtain⟨R,hR⟩:∃R,R=lg src f (src.size+1) f:=⟨_,rfl⟩;have HR:=hid hR;rw[<-hR];clear hR;have HB:Hid (4∉[b]):=hid (by simpa using Ne.symm hb0);have c1:=hr.c1;have hsm:=hr.small;go_enter Tryz.func205,Tryz.ntmps205
 go_wp2;clear c1;go_loopw [2] (fun _ wr=>∃a n:Nat,f<=a/\src.size+1<=a+n/\Rd wr b src a g/\Kp [b] w wr/\Hid (R=lg src f n a)) (fun _ wr=>3000-Qj wr b)
 case atStart=>exact⟨f,src.size+1,by omega,by omega,hr,Kp.refl _ _,HR⟩
 case round=>
  obtain⟨a,n,hfa,han,hrr,hkp,HN⟩:=hrel;have HAT:Hid _:=fU hrr;have hle:=hrr.le
  match n,HN,han with
  | 0,_,han=>omega
  | n+1,HN,han=>
  have hn:=HN.out;unfold lg at hn;have c0:=hrr.c0;have c1:=hrr.c1;have f1:=hrr.free 1;have hnm:=hw.aj hkp HB.out;clear HN HR;by_cases hlt:a<src.size
  .have he:((a:Int)==(src.size:Int))=false:=by simp;omega
   obtain⟨a1,ha1⟩:∃a1:Nat,a1=a+1:=⟨_,rfl⟩;rw[<-ha1] at hn;have hes:(src.extract f a1).size<=3000:=by simp;omega
   have HE:Hid _:=hes;have hwr:=aa a1 (by omega);have hfa1:f<=a1:=by omega
   have has1:a1<=src.size:=by omega
   have hsum:(a:Int)+1=(a1:Int):=by omega
   have HA1:Hid _:=ha1;clear hes ha1
   cases hany:Lm (src.extract f a1)
   .rw[hany,Qw (by simp)] at hn;have HN:=hid hn;have HAN:∀n,Calls Tryz.prog 206 #[.string (src.extract f a1)] (wr.drewN n) fun e w'=>e=.returned (.bool false)/\∃m,w'=wr.drewN m:=fun n=>by
     have:=oy _ (wr.drewN n) HE.out (hnm.aj (Kp.drewN [] _ _) (by simp));rw[hany] at this;exact Calls.quiet_of_same this
    clear hn hany hnm;go_wp2;go_quiet (first|(go_at_call 104;exact jk hrr he _)|(go_at_call 206;exact HAN _));go_wp2_with fail;refine(dR (hrr.drewN _)).mono ?_;rintro e w2 ⟨rfl,k2⟩;go_wp2_with fail;refine⟨rfl,?_⟩;rw[HN.out];exact⟨rfl,hkp.trans ((Kp.drewN _ _ _).trans (k2.mono (by simp)))⟩
   .rw[hany,QB ⟨hlt,rfl⟩] at hn;have HN:=hid hn;have HAN:∀n,Calls Tryz.prog 206 #[.string (src.extract f a1)] (wr.drewN n) fun e w'=>e=.returned (.bool true)/\∃m,w'=wr.drewN m:=fun n=>by
     have:=oy _ (wr.drewN n) HE.out (hnm.aj (Kp.drewN [] _ _) (by simp));rw[hany] at this;exact Calls.quiet_of_same this
    clear hn hany hnm;go_wp2;go_quiet (first|(go_at_call 104;exact jk hrr he _)|(go_at_call 206;exact HAN _));go_wp2;have hr2:Rd ((wr.drewN nq).setCell ⟨b,1,none⟩ (.int .i64 (a1:Int))) b src a1 g:=by
     have:=(hrr.drewN nq).step hlt
     rwa [hsum,<-HA1.out] at this
    have hkp2:Kp [b] w ((wr.drewN nq).setCell ⟨b,1,none⟩ (.int .i64 (a1:Int))):=hkp.trans ((Kp.drewN _ _ _).trans (Kp.setCell _ _ (by simp)));clear c0 c1 f1 he hwr hsum HAN;go_loopw [44] (fun v wl=>∃k:Nat,k<=7/\v=.int .i64 k/\Rd wl b src a1 g/\Kp [b] w wl/\Hid (∀j,j<k->((nmN j).toList==(src.extract f a1).toList)=false)) (fun v _=>7-(intOf v).toNat)
    case atStart=>exact⟨0,by omega,rfl,hr2,hkp2,hid (fun j hj=>by omega)⟩
    case round=>
     obtain⟨k,hk7,rfl,hrl,hkl,HJ⟩:=hrel;by_cases hk:k<7
     .have c0:=hrl.c0;have c1:=hrl.c1;have hnm:=hw.aj hkl HB.out;have n0:=hnm.name k hk;have n1:=hnm.spans k hk;clear hr2 hrr
      cases hq:((nmN k).toList==(src.extract f a1).toList)
      .have HQ:=hid hq;go_wp2;go_quiet (fail);go_wp2;go_roundw
       case rel=>
        refine⟨k+1,by omega,by go_num,hrl.drewN _,hkl.trans (Kp.drewN _ _ _),hid (fun j hj=>?_)⟩;by_cases e:j=k
        .rw[e];exact HQ.out
        .exact HJ.out j (by omega)
       case measure=>simp[intOf];omega
      .have HFI:Hid (isNm (src.extract f a1)=some k):=hid (by
        unfold isNm;rw[List.find?_range_eq_some]
        exact⟨hq,List.mem_range.2 hk,fun j hj=>by rw[HJ.out j hj];rfl⟩)
       go_wp2;go_quiet (fail);go_wp2;go_ret;rw[HN.out,HFI.out];exact⟨rfl,hrl.drewN nq,hkl.trans (Kp.drewN _ _ _)⟩
     .have e7:k=7:=by omega
      subst e7
      have HFI:Hid (isNm (src.extract f a1)=none):=hid (by
       unfold isNm;rw[List.find?_range_eq_none]
       exact fun j hj=>by rw[HJ.out j hj];rfl)
      clear hr2 hrr;go_wp2;go_roundw
      case rel=>
       refine⟨a1,n,by omega,by have:=HA1.out;omega,hrl,hkl,hid ?_⟩;rw[HN.out,HFI.out,HA1.out]
      case measure=>
       rw[fU hrl,HAT.out];have:=HA1.out;omega
  .have he:((a:Int)==(src.size:Int))=true:=by simp;omega
   rw[Qw (by omega)] at hn;have HN:=hid hn;clear hn hlt;go_wp2;go_quiet ((go_at_call 104;exact jk hrr he _));go_wp2_with fail;refine(dR (hrr.drewN _)).mono ?_;rintro e w2 ⟨rfl,k2⟩;go_wp2_with fail;refine⟨rfl,?_⟩;rw[HN.out];exact⟨rfl,hkp.trans ((Kp.drewN _ _ _).trans (k2.mono (by simp)))⟩
end
section
variable {w:World}{b k g pl s:Nat}{src:ByteArray}{m:Nat->Bool}
theorem uP{src:ByteArray}{f:Nat}:∀{n k l i:Nat},lg src f n k=.ok (l,i)->k<l/\l<=src.size/\i<7
 | 0,_,_,_,h=>by cases h
 | n+1,k,l,i,h=>by
  unfold lg at h;split at h
  .rename_i hc;split at h
   .rename_i j hj;injection h with h;injection h with h1 h2;subst h1 h2;unfold isNm at hj;have:=List.find?_range_eq_some.1 hj;exact⟨by omega,by have:=hc.1;omega,List.mem_range.1 this.2.1⟩
   .have:=uP h;omega
  .cases h
def ItemO(b s:Nat)(src:ByteArray)(g:Nat)(w:World)(p:Nat×(Nat->Bool))(e:Ending)(w':World):Prop:=e=.returned (.tuple #[])/\Rd w' b src p.1 g/\St w' s p.2/\Kp [s,b] w w'
theorem PY(hr:Rd w b src k g)(hs:St w s m)(hw:Nm w)(hb0:b≠4)(hbs:b≠s):Calls Tryz.prog 202 #[.pointer (some ⟨b,0,none⟩),.pointer (some ⟨s,0,none⟩)] w (OutB (iE src k m) (ItemO b s src g w) [s,b] w):=by
 obtain⟨R,hR⟩:∃R,R=iE src k m:=⟨_,rfl⟩;rw[<-hR];unfold iE at hR;have HB:Hid (4∉[b]):=hid (by simpa using Ne.symm hb0)
 cases h91:saw src k 91
 .rw[h91,Qw (by simp)] at hR;have h1:=OY (barred:=dM) (behind:=dN) hr.le;go_enter Tryz.func202,Tryz.ntmps202
  go_wp2_with fail;refine(aF 91 hr h91).mono ?_;rintro e w1 ⟨rfl,r1,k1⟩
  cases hb1:zY src dM dN k with
  | error pl=>
   rw[hb1] at h1 hR;have HR:=hid hR;have C:=hid (h1 g w1 b r1);unfold dM dN at C;clear h1 hR;go_wp2_with fail;refine C.out.mono ?_;rintro e w2 ⟨rfl,k2⟩;go_wp2_with fail;refine⟨rfl,?_⟩;rw[HR.out];exact⟨rfl,(k1.trans k2).mono (by simp)⟩
  | ok p=>
   obtain⟨l,x⟩:=p;rw[hb1] at h1 hR;dsimp only at hR;obtain⟨hx,hkl,hls,hby⟩:=h1;have C:=hid (hby b g w1 r1);unfold dM dN at C;clear hby
   cases h45:saw src l 45
   .rw[h45,Qw (by simp)] at hR;have HR:=hid hR;clear hR;have hl':decide ((x:Int)<(x:Int))=false:=by simp
    go_wp2_with fail;refine C.out.mono ?_;rintro e w2 ⟨rfl,r2,k2⟩;go_wp2_with fail;refine(aF 45 r2 h45).mono ?_;rintro e w3 ⟨rfl,r3,k3⟩;have kk:=(k1.trans k2).trans k3;go_wp2_with fail;refine(xK s m x x hx hx (QD _) _ (hs.aj kk (by simpa using Ne.symm hbs))).mono ?_;rintro e w5 ⟨rfl,s5,k5⟩;go_wp2_with fail;refine bodyPost_ret (results_none rfl _ _ _) rfl ?_;rw[HR.out];exact⟨rfl,r3.aj k5 (by simpa using hbs),s5,(kk.mono (by simp)).trans (k5.mono (by simp))⟩
   .rw[h45,QB rfl] at hR;have hl1:=aC h45;have h2:=OY (barred:=dM) (behind:=dN) (src:=src) (k:=l+1) (by omega);obtain⟨j,hj⟩:∃j,j=l+1:=⟨_,rfl⟩;rw[<-hj] at h2 hR;have hjs:j<=src.size:=by omega
    have HJ:=hid hj;clear hj;go_wp2_with fail;refine C.out.mono ?_;rintro e w2 ⟨rfl,r2,k2⟩;go_wp2_with fail;refine(aK 45 r2 h45).mono ?_;rintro e w3 ⟨rfl,r3,k3⟩;rw[<-HJ.out] at r3;have c1:=r3.c1;have kk:=(k1.trans k2).trans k3
    cases hb2:zY src dM dN j with
    | error pl=>
     rw[hb2] at h2 hR;have HR:=hid hR;have C2:=hid (h2 g w3 b r3);unfold dM dN at C2;clear h2 hR;go_wp2_with fail;refine C2.out.mono ?_;rintro e w4 ⟨rfl,k4⟩;go_wp2_with fail;refine⟨rfl,?_⟩;rw[HR.out];exact⟨rfl,(kk.trans k4).mono (by simp)⟩
    | ok p=>
     obtain⟨l2,y⟩:=p;rw[hb2] at h2 hR;dsimp only at hR;obtain⟨hy,hkl2,hls2,hby2⟩:=h2;have C2:=hid (hby2 b g w3 r3);unfold dM dN at C2;clear hby2;by_cases hyx:y<x
     .replace hR:R=.error j:=by rw[hR];exact QB hyx
      have HR:=hid hR;clear hR;have hcmp:decide ((y:Int)<(x:Int))=true:=by simp;omega
      go_wp2_with fail;refine C2.out.mono ?_;rintro e w4 ⟨rfl,r4,k4⟩;clear c1;have c1:=r4.c1;have f1:=r4.free 1;have R5:=hid (r4.goto j hjs);have k5:Kp [b] w4 (w4.setCell ⟨b,1,none⟩ (.int .i64 (j:Int))):=Kp.setCell _ _ (by simp);go_wp2_with fail;refine(dR R5.out).mono ?_;rintro e w6 ⟨rfl,k6⟩;go_wp2_with fail;refine⟨rfl,?_⟩;rw[HR.out];exact⟨rfl,(kk.trans (k4.trans (k5.trans (k6.mono (by simp))))).mono (by simp)⟩
     .replace hR:R=.ok (l2,span m x (y+1)):=by rw[hR];exact Qw hyx
      have HR:=hid hR;clear hR;have hcmp:decide ((y:Int)<(x:Int))=false:=by simp;omega
      go_wp2_with fail;refine C2.out.mono ?_;rintro e w4 ⟨rfl,r4,k4⟩;clear c1;have kk4:=kk.trans k4;go_wp2_with fail;refine(xK s m x y hx hy (by omega) _ (hs.aj kk4 (by simpa using Ne.symm hbs))).mono ?_;rintro e w5 ⟨rfl,s5,k5⟩;go_wp2_with fail;refine bodyPost_ret (results_none rfl _ _ _) rfl ?_;rw[HR.out];exact⟨rfl,r4.aj k5 (by simpa using hbs),s5,(kk4.mono (by simp)).trans (k5.mono (by simp))⟩
 .rw[h91,QB rfl] at hR;have hk:=aC h91;go_enter Tryz.func202,Tryz.ntmps202
  go_wp2_with fail;refine(aK 91 hr h91).mono ?_;rintro e w1 ⟨rfl,r1,k1⟩;go_wp2_with fail
  cases h58:saw src (k+1) 58
  .rw[h58,Qw (by simp)] at hR;refine(gA 58 r1 h58).mono ?_;rintro e w2 ⟨rfl,k2⟩;have HR:=hid hR;clear hR;go_wp2_with fail;refine⟨rfl,?_⟩;rw[HR.out];exact⟨rfl,(k1.trans k2).mono (by simp)⟩
  .rw[h58,QB rfl] at hR;refine(dY 58 r1 h58).mono ?_;rintro e w2 ⟨rfl,r2,k2⟩;have C:=hid (name_g r2 (hw.aj (k1.trans k2) HB.out) hb0)
   cases hn:lg src (k+2) (src.size+1) (k+2) with
   | error pl=>
    rw[hn] at hR;have C:Hid _:=C;rw[show k+1+1=k+2 by omega,hn] at C;have HR:=hid hR;clear hR;go_wp2_with fail;refine C.out.mono ?_;rintro e w3 ⟨rfl,k3⟩;go_wp2_with fail;refine⟨rfl,?_⟩;rw[HR.out];exact⟨rfl,((k1.trans k2).trans k3).mono (by simp)⟩
   | ok p=>
    obtain⟨l,i⟩:=p;rw[hn] at hR;rw[show k+1+1=k+2 by omega,hn] at C;have HL:=hid (uP hn);replace hR:R=if saw src l 58=true then (if saw src (l+1) 93=true then .ok (l+2,xM m (nmS i).data.toList) else .error (l+1)) else .error l:=hR;clear hn;go_wp2_with fail;refine C.out.mono ?_;rintro e w3 ⟨rfl,r3,k3⟩;replace r3:Rd w3 b src l g:=r3;have kk:=(k1.trans k2).trans k3;go_wp2_with fail;refine(Aj s m (nmS i) _ (hs.aj kk (by simpa using Ne.symm hbs)) (nmS_ok i) (nmS_ord i)).mono ?_;rintro e w4 ⟨rfl,s4,k4⟩;have r4:=r3.aj k4 (by simpa using hbs);have kk4:Kp [s,b] w w4:=(kk.mono (by simp)).trans (k4.mono (by simp));go_wp2_with fail
    cases h3:saw src l 58
    .rw[h3,Qw (by simp)] at hR;have HR:=hid hR;clear hR;refine(gA 58 r4 h3).mono ?_;rintro e w5 ⟨rfl,k5⟩;go_wp2_with fail;refine⟨rfl,?_⟩;rw[HR.out];exact⟨rfl,kk4.trans (k5.mono (by simp))⟩
    .rw[h3,QB rfl] at hR;refine(dY 58 r4 h3).mono ?_;rintro e w5 ⟨rfl,r5,k5⟩;go_wp2_with fail
     cases h4:saw src (l+1) 93
     .rw[h4,Qw (by simp)] at hR;have HR:=hid hR;clear hR;refine(gA 93 r5 h4).mono ?_;rintro e w6 ⟨rfl,k6⟩;go_wp2_with fail;refine⟨rfl,?_⟩;rw[HR.out];exact⟨rfl,kk4.trans ((k5.trans k6).mono (by simp))⟩
     .rw[h4,QB rfl] at hR;have HR:=hid hR;clear hR;refine(dY 93 r5 h4).mono ?_;rintro e w6 ⟨rfl,r6,k6⟩;go_wp2_with fail;refine bodyPost_ret (results_none rfl _ _ _) rfl ?_;rw[HR.out];exact⟨rfl,r6,s4.aj (k5.trans k6) (by simpa using Ne.symm hbs),kk4.trans ((k5.trans k6).mono (by simp))⟩
theorem Lc{src barred behind:ByteArray}{k l x:Nat}(hk:k<=src.size)(h:zY src barred behind k=.ok (l,x)):k<l/\l<=src.size:=by
 have:=OY (barred:=barred) (behind:=behind) hk;rw[h] at this;exact⟨this.2.1,this.2.2.1⟩
theorem oP{k l:Nat}{m m':Nat->Bool}(hk:k<=src.size)(h:iE src k m=.ok (l,m')):k<l/\l<=src.size:=by
 unfold iE at h;split at h
 .split at h
  .split at h
   .cases h
   .rename_i l1 i hn;split at h
    .split at h
     .rename_i h93;injection h with h;injection h with h1 h2;have:=uP hn;have:=aC h93;omega
     .cases h
    .cases h
  .cases h
 .split at h
  .cases h
  .rename_i l1 x hb;have h1:=Lc hk hb;split at h
   .rename_i h45;have:=aC h45;split at h
    .cases h
    .rename_i l2 y hb2;have h2:=Lc (by omega) hb2;split at h
     .cases h
     .injection h with h;injection h with h1 h2;omega
   .injection h with h;injection h with h1 h2;omega
theorem yW{src:ByteArray}:∀{n k l:Nat} {m m':Nat->Bool},k<=src.size->ia src n k m=.ok (l,m')->k<l/\l<=src.size
 | 0,_,_,_,_,_,h=>by cases h
 | n+1,k,l,m,m',hk,h=>by
  unfold ia at h;split at h
  .rename_i h93;injection h with h;injection h with h1 h2;have:=aC h93;omega
  .split at h
   .cases h
   .rename_i l1 m1 hi;have h1:=oP hk hi;have h2:=yW h1.2 h;omega
def Qo(b:Nat)(src:ByteArray)(g:Nat)(w:World)(p:Nat×(Nat->Bool))(e:Ending)(w':World):Prop:=e=.returned (AH p.2)/\Rd w' b src p.1 g/\Kp [b] w w'
theorem class_o{n:Nat}(hr:Rd w b src k g)(hw:Nm w)(hb0:b≠4)(hn:src.size+1<=k+n):Calls Tryz.prog 195 #[.pointer (some ⟨b,0,none⟩)] w (OutB (gL src n k) (Qo b src g w) [b] w):=by
 obtain⟨R,hR⟩:∃R,R=gL src n k:=⟨_,rfl⟩;rw[<-hR];unfold gL at hR;have HB:Hid (4∉[b]):=hid (by simpa using Ne.symm hb0);have hlt:=hr.lt;have q0:=Kp.alloc [b] w oB;have r0:=hr.aj (Kp.alloc [] w oB) (by simp);have q0z:(w.alloc oB).heap.size=w.heap.size+1:=by simp
 obtain⟨t,ht⟩:∃t,t=saw src k 94:=⟨_,rfl⟩;obtain⟨k0,hk0⟩:∃k0,k0=if saw src k 94=true then k+1 else k:=⟨_,rfl⟩;rw[<-hk0] at hR;have TK:=hid (Mq 94 r0);rw[<-ht] at TK hk0 hR;rw[<-hk0] at TK;have hkk:k<=k0:=by rw[hk0];split<;>omega
 have HK:=hid (And.intro ht hk0);clear ht hk0;go_enter Tryz.func195,Tryz.ntmps195
 go_wp2_with fail;refine TK.out.mono ?_;rintro e w1 ⟨rfl,r1,k1⟩;have hz1:=k1.size;rw[q0z] at hz1;have r2:=r1.aj (Kp.alloc [] w1 oB) (by simp);have q2:=Kp.alloc [b] w1 oB;have hne:b≠w1.heap.size:=by have:=r1.lt;omega
 have hw2:Nm (w1.alloc oB):=((hw.aj q0 HB.out).aj k1 HB.out).aj q2 HB.out;have K12:Kp [b] w (w1.alloc oB):=q0.trans (k1.trans q2);have hle0:=r1.le;obtain⟨sb,hsb⟩:∃sb,sb=w1.heap.size:=⟨_,rfl⟩;obtain⟨w2,hw2e⟩:∃w2,w2=w1.alloc oB:=⟨_,rfl⟩;have SN:=LI w1;have IT:=hid (PY r2 SN hw2 hb0 hne);rw[<-hsb,<-hw2e] at SN IT;rw[<-hsb] at hne;rw[<-hw2e] at K12 hw2 r2;have Z0:St w2 w.heap.size dq:=by rw[hw2e];exact((LI w).aj k1 (by simp;omega)).aj q2 (by simp;omega)
 have hs0:sb≠w.heap.size:=by omega
 have hb0':b≠w.heap.size:=by omega
 go_wp2_with fail;rw[<-hsb,<-hw2e];have hszs:w.heap.size<=sb:=by omega
 have HSB:=hid hsb;clear hsb hw2e q0 r0 q0z k1 q2 r1 hz1 r2
 cases hi:iE src k0 dq with
 | error pl=>
  rw[hi] at IT hR;have HR:=hid hR;clear hR;refine IT.out.mono ?_;rintro e w3 ⟨rfl,k3⟩;go_wp2_with fail;refine⟨rfl,?_⟩;rw[HR.out];exact⟨rfl,Kp.own (x:=sb) ((K12.mono (by simp)).trans k3) hszs⟩
 | ok p=>
  obtain⟨l,m1⟩:=p;rw[hi] at IT hR;have hl:=oP hle0 hi;replace hR:R=match ia src n l m1 with
   | .error pl=>.error pl
   | .ok (l2,m2)=>.ok (l2,if t=true then fun x=>!m2 x else m2):=hR
  have HR:=hid hR;clear hR;refine IT.out.mono ?_;rintro e w3 ⟨rfl,r3,s3,k3⟩;replace r3:Rd w3 b src l g:=r3;replace s3:St w3 sb m1:=s3;have K3:Kp [sb,b] w w3:=(K12.mono (by simp)).trans k3;have Z3:=Z0.aj k3 (by simp;omega);clear K12 k3 Z0 IT;go_wp2_with fail;go_loopw [11] (fun _ wr=>∃a j ma,k0<a/\src.size+1<=a+j/\Rd wr b src a g/\Hid (St wr sb ma)/\Hid (St wr w.heap.size dq)/\Kp [sb,b] w wr/\Hid (ia src n l m1=ia src j a ma)) (fun _ wr=>3000-Qj wr b)
  case atStart=>exact⟨l,n,m1,hl.1,by omega,r3,hid s3,hid Z3,K3,hid rfl⟩
  case round=>
   clear r3 s3 K3 Z3;obtain⟨a,j,ma,hka,haj,hrr,HS,HZ,hkp,HI⟩:=hrel;have HAT:Hid _:=fU hrr;have hle:=hrr.le;have hsm:=hrr.small
   match j,HI,haj with
   | 0,_,haj=>omega
   | j+1,HI,haj=>
   have hI:=HI.out;rw[ia] at hI;clear HI
   cases h93:saw src a 93
   .rw[h93,Qw (by simp)] at hI;go_wp2_with fail;refine(aF 93 hrr h93).mono ?_;rintro e w4 ⟨rfl,r4,k4⟩;have s4:=HS.out.aj k4 (by simpa using Ne.symm hne);have z4:=HZ.out.aj k4 (by simpa using Ne.symm hb0');have hGs:4∉[sb,b]:=by have:=hw.lt;have:=HB.out;simp at this ⊢;omega
    have hw4:=(hw.aj hkp hGs).aj k4 HB.out;have C:=hid (PY r4 s4 hw4 hb0 hne);have hsmr:=r4.small
    cases hi2:iE src a ma with
    | error pl=>
     rw[hi2] at C hI;have HI:=hid hI;clear hI hGs hw4;go_wp2_with fail;refine C.out.mono ?_;rintro e w5 ⟨rfl,k5⟩;go_wp2_with fail;refine⟨rfl,?_⟩;rw[HR.out,HI.out];exact⟨rfl,Kp.own (x:=sb) (hkp.trans ((k4.mono (by simp)).trans k5)) hszs⟩
    | ok p=>
     obtain⟨l2,m2⟩:=p;rw[hi2] at C hI;have hl2:=oP hle hi2;have HI:=hid hI;clear hI hGs hw4;go_wp2_with fail;refine C.out.mono ?_;rintro e w5 ⟨rfl,r5,s5,k5⟩;replace r5:Rd w5 b src l2 g:=r5;replace s5:St w5 sb m2:=s5;have z5:=z4.aj k5 (by simp;omega);go_wp2_with fail;go_round
     case rel=>exact⟨l2,j,m2,by omega,by omega,r5,hid s5,hid z5,hkp.trans ((k4.mono (by simp)).trans k5),HI⟩
     case measure=>rw[fU r5,HAT.out];omega
   .rw[h93,QB rfl] at hI;have HI:=hid hI;clear hI;have hlt9:=aC h93;go_wp2_with fail;refine(aK 93 hrr h93).mono ?_;rintro e w4 ⟨rfl,r4,k4⟩;have s4:=HS.out.aj k4 (by simpa using Ne.symm hne);have z4:=HZ.out.aj k4 (by simpa using Ne.symm hb0');have K4:Kp [sb,b] w w4:=hkp.trans (k4.mono (by simp));clear hkp k4 hrr
    cases t
    .have a0:=s4.cell 0 (by omega);have a1:=s4.cell 1 (by omega);have a2:=s4.cell 2 (by omega);have a3:=s4.cell 3 (by omega);have d0:=z4.cell 0 (by omega);have d1:=z4.cell 1 (by omega);have d2:=z4.cell 2 (by omega);have d3:=z4.cell 3 (by omega);have f0:=z4.free 0;have f1:=z4.free 1;have f2:=z4.free 2;have f3:=z4.free 3;go_wp2_with fail;have K3:Kp [b] w w4:=Kp.own (x:=sb) K4 hszs;refine bodyPost_ret (v:=AH ma) (by simp[results,Tryz.results195,go_sem,d0,d1,d2,d3]) rfl ?_;rw[HR.out,HI.out];refine⟨rfl,?_,?_⟩
     .exact(((r4.aj (Kp.setCell (S:=[w.heap.size]) _ _ (by simp)) (by simp;omega)).aj (Kp.setCell (S:=[w.heap.size]) _ _ (by simp)) (by simp;omega)).aj (Kp.setCell (S:=[w.heap.size]) _ _ (by simp)) (by simp;omega)).aj (Kp.setCell (S:=[w.heap.size]) _ _ (by simp)) (by simp;omega)
     .exact Kp.own (x:=w.heap.size) (((((K3.mono (by simp)).trans (Kp.setCell _ _ (by simp))).trans (Kp.setCell _ _ (by simp))).trans (Kp.setCell _ _ (by simp))).trans (Kp.setCell _ _ (by simp))) (QD _)
    .have a0:=s4.cell 0 (by omega);have a1:=s4.cell 1 (by omega);have a2:=s4.cell 2 (by omega);have a3:=s4.cell 3 (by omega);go_wp2_with fail;refine(rU ma _).mono ?_;rintro e w5 ⟨rfl,k5⟩;have z5:=z4.aj k5 (by simp);have r5:=r4.aj k5 (by simp);have d0:=z5.cell 0 (by omega);have d1:=z5.cell 1 (by omega);have d2:=z5.cell 2 (by omega);have d3:=z5.cell 3 (by omega);have f0:=z5.free 0;have f1:=z5.free 1;have f2:=z5.free 2;have f3:=z5.free 3;clear a0 a1 a2 a3;have K5:Kp [b] w w5:=(Kp.own (x:=sb) K4 hszs).trans (k5.mono (by simp));go_wp2_with fail;refine bodyPost_ret (v:=AH fun x=>!ma x) (by simp[results,Tryz.results195,go_sem,d0,d1,d2,d3]) rfl ?_;rw[HR.out,HI.out];refine⟨rfl,?_,?_⟩
     .exact(((r5.aj (Kp.setCell (S:=[w.heap.size]) _ _ (by simp)) (by simp;omega)).aj (Kp.setCell (S:=[w.heap.size]) _ _ (by simp)) (by simp;omega)).aj (Kp.setCell (S:=[w.heap.size]) _ _ (by simp)) (by simp;omega)).aj (Kp.setCell (S:=[w.heap.size]) _ _ (by simp)) (by simp;omega)
     .exact Kp.own (x:=w.heap.size) (((((K5.mono (by simp)).trans (Kp.setCell _ _ (by simp))).trans (Kp.setCell _ _ (by simp))).trans (Kp.setCell _ _ (by simp))).trans (Kp.setCell _ _ (by simp))) (QD _)
theorem class_g{n:Nat}(hk:k<=src.size)(hn:src.size+1<=k+n):match gL src n k with
  | .ok (l,m)=>k<l/\l<=src.size/\∀b g,b≠4->Cx b src k l g m
  | .error pl=>∀g,fO 195 src k g pl:=by
 have H:∀b g,b≠4->∀w,Rd w b src k g->Nm w->Calls Tryz.prog 195 #[.pointer (some ⟨b,0,none⟩)] w (OutB (gL src n k) (Qo b src g w) [b] w):=fun b g hb w hr hw=>class_o hr hw hb hn
 cases hc:gL src n k with
 | error pl=>
  rw[hc] at H;exact fun g w b hb hr hw=>H b g hb w hr hw
 | ok p=>
  obtain⟨l,m⟩:=p;rw[hc] at H;refine⟨?_,?_,fun b g hb w hr hw=>H b g hb w hr hw⟩
  all_goals
   unfold gL at hc;split at hc
   .cases hc
   .rename_i l1 m1 h1;split at hc
    .cases hc
    .rename_i l2 m2 h2;injection hc with hc;injection hc with e1 e2;have hk0:(if saw src k 94=true then k+1 else k)<=src.size:=by
      split
      .rename_i h94;have:=aC h94;omega
      .exact hk
     have q1:=oP hk0 h1;have q2:=yW q1.2 h2;split at q1<;>omega
end
