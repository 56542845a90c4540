import Derived.Test.YtiahkfoojjpaaaaGreatDoorS18
import Derived.Test.YtiahkfoojjpaaaaGreatDoorS27
set_option maxRecDepth 100000
set_option maxHeartbeats 16000000
set_option linter.all false
namespace Go.Proofs.YtiahkfoojjpaaaaGreatDoor
open Go.RowKit
inductive Pn.Ok:Pn->Prop
 | one (m:Nat->Bool):Pn.Ok (.one m)
 | He {k:Nat} (h:k=1\/k=2):Pn.Ok (.He k)
 | group {g:Nat} {x:Pn} (h1:1<=g) (h2:g<=9) (h:Pn.Ok x):Pn.Ok (.group g x)
 | rep {x:Pn} {a:Nat} {b:Option Nat} (hb:okB a b) (h:Pn.Ok x):Pn.Ok (.rep x a b)
 | row {l:List Pn} (h:∀x∈l,Pn.Ok x):Pn.Ok (.row l)
 | brs {l:List Pn} (hl:l≠[]) (h:∀x∈l,Pn.Ok x):Pn.Ok (.brs l)
theorem rep_ok{src:ByteArray}{k l:Nat}{r:Option (Nat×Option Nat)}(hk:k<=src.size)(h:Df src k=.ok (l,r)):okR r:=by
 have:=rep_g (src:=src) (k:=k) hk;rw[h] at this;exact this.1
theorem Pn.Ok.times{x:Pn}(h:x.Ok){r:Option (Nat×Option Nat)}(hr:okR r):(x.times r).Ok:=by
 cases r with
 | none=>exact h
 | some p=>exact .rep hr h
theorem ML{src:ByteArray}{k:Nat}(h:src.size<k):Df src k=.ok (k,none):=by
 have hs:∀x,saw src k x=false:=fun x=>by unfold saw;rw[dif_neg (by omega)]
 simp[Df,hs]
theorem Dy(src:ByteArray):∀n,(∀k g l g' x,g<=9->lI src n k g=.ok (l,g',x)->x.Ok/\g<=g'/\g'<=9) /\
  (∀k g l g' x,g<=9->gK src n k g=.ok (l,g',x)->x.Ok/\g<=g'/\g'<=9) /\
  (∀k g l g' xs,g<=9->xP src n k g=.ok (l,g',xs)->(∀x∈xs,Pn.Ok x)/\g<=g'/\g'<=9) /\
  (∀k g l g' xs,g<=9->jo src n k g=.ok (l,g',xs)->(∀x∈xs,Pn.Ok x)/\g<=g'/\g'<=9) /\
  (∀k g l g' x,g<=9->Aq src n k g=.ok (l,g',x)->x.Ok/\g<=g'/\g'<=9)
 | 0=>⟨fun _ _ _ _ _ _ h=>(by unfold lI at h;cases h),fun _ _ _ _ _ _ h=>(by unfold gK at h;cases h),fun _ _ _ _ _ _ h=>(by unfold xP at h;cases h),fun _ _ _ _ _ _ h=>(by unfold jo at h;cases h),fun _ _ _ _ _ _ h=>(by unfold Aq at h;cases h)⟩
 | n+1=>by
  obtain⟨hA,hP,hR,hM,hB⟩:=Dy src n;refine⟨fun k g l g' x hg h=>?_,fun k g l g' x hg h=>?_,fun k g l g' xs hg h=>?_,fun k g l g' xs hg h=>?_,fun k g l g' x hg h=>?_⟩
  .unfold lI at h;split at h
   .split at h
    .cases h
    .split at h
     .cases h
     .rename_i h9 _ l1 g1 x1 hb;split at h
      .injection h with h;injection h with h1 h;injection h with h2 h3;subst h1 h2 h3;obtain⟨b1,b2,b3⟩:=hB _ _ _ _ _ (by omega) hb;exact⟨.group (by omega) (by omega) b1,by omega,b3⟩
      .cases h
   .split at h
    .injection h with h;injection h with h1 h;injection h with h2 h3;subst h1 h2 h3;exact⟨.one _,QD _,hg⟩
    .split at h
     .split at h
      .cases h
      .injection h with h;injection h with h1 h;injection h with h2 h3;subst h1 h2 h3;exact⟨.one _,QD _,hg⟩
     .split at h
      .cases h
      .injection h with h;injection h with h1 h;injection h with h2 h3;subst h1 h2 h3;exact⟨.one _,QD _,hg⟩
  .unfold gK at h;split at h
   .injection h with h;injection h with h1 h;injection h with h2 h3;subst h1 h2 h3;exact⟨.He (.inl rfl),QD _,hg⟩
   .split at h
    .injection h with h;injection h with h1 h;injection h with h2 h3;subst h1 h2 h3;exact⟨.He (.inr rfl),QD _,hg⟩
    .split at h
     .cases h
     .rename_i l1 g1 x1 ha;split at h
      .cases h
      .rename_i l2 r hr;injection h with h;injection h with h1 h;injection h with h2 h3;subst h1 h2 h3;obtain⟨a1,a2,a3⟩:=hA _ _ _ _ _ hg ha;refine⟨a1.times ?_,a2,a3⟩;by_cases hl:l1<=src.size
       .exact rep_ok hl hr
       .rw[ML (by omega)] at hr;injection hr with hr;injection hr with _ hr;subst hr
        trivial
  .unfold xP at h;split at h
   .split at h
    .cases h
    .rename_i l1 g1 x1 ha;split at h
     .cases h
     .rename_i l2 g2 xs2 hr;injection h with h;injection h with h1 h;injection h with h2 h3;subst h1 h2 h3;obtain⟨a1,a2,a3⟩:=hP _ _ _ _ _ hg ha;obtain⟨c1,c2,c3⟩:=hR _ _ _ _ _ a3 hr
      exact⟨fun x hx=>by
       rcases List.mem_cons.1 hx with e|e
       .subst e;exact a1
       .exact c1 x e,by omega,c3⟩
   .injection h with h;injection h with h1 h;injection h with h2 h3;subst h1 h2 h3;exact⟨fun x hx=>(by cases hx),QD _,hg⟩
  .unfold jo at h;split at h
   .split at h
    .cases h
    .rename_i l1 g1 x1 ha;split at h
     .cases h
     .rename_i l2 g2 xs2 hr;injection h with h;injection h with h1 h;injection h with h2 h3;subst h1 h2 h3;obtain⟨a1,a2,a3⟩:=hR _ _ _ _ _ hg ha;obtain⟨c1,c2,c3⟩:=hM _ _ _ _ _ a3 hr
      exact⟨fun x hx=>by
       rcases List.mem_cons.1 hx with e|e
       .subst e;exact .row a1
       .exact c1 x e,by omega,c3⟩
   .injection h with h;injection h with h1 h;injection h with h2 h3;subst h1 h2 h3;exact⟨fun x hx=>(by cases hx),QD _,hg⟩
  .unfold Aq at h;split at h
   .cases h
   .rename_i l1 g1 x1 ha;split at h
    .cases h
    .rename_i l2 g2 xs2 hr;injection h with h;injection h with h1 h;injection h with h2 h3;subst h1 h2 h3;obtain⟨a1,a2,a3⟩:=hR _ _ _ _ _ hg ha;obtain⟨c1,c2,c3⟩:=hM _ _ _ _ _ a3 hr
     exact⟨.brs (by simp) fun x hx=>by
      rcases List.mem_cons.1 hx with e|e
      .subst e;exact .row a1
      .exact c1 x e,by omega,c3⟩
mutual
def Pn.rl(text:ByteArray):Pn->Nat->Rl
 | .one m=>mOne text m
 | .He k=>fun _=>NJ text k
 | .group g x=>fun d=>DH g (x.rl text d)
 | .rep x a b=>mRep (x.rl text) a b
 | .row l=>F0 (rlL text l)
 | .brs l=>PV (rlL text l)
def rlL(text:ByteArray):List Pn->List (Nat->Rl)
 | []=>[]
 | x::l=>x.rl text::rlL text l
end
theorem Hg(text:ByteArray):∀l:List Pn,(l.map fun x=>((x.pi,x.rl text):Mn)).map (·.1)=piL l/\(l.map fun x=>((x.pi,x.rl text):Mn)).map (·.2)=rlL text l
 | []=>⟨rfl,rfl⟩
 | x::l=>by
  have:=Hg text l;exact⟨by simp[piL,this.1],by simp[rlL,this.2]⟩
theorem Pn.Ok.sm(text:ByteArray){x:Pn}(h:x.Ok):SmP text x.pi (x.rl text):=by
 induction h with
 | one m=>exact smP_one m
 | He h=>exact MB _ h
 | group h1 h2 _ ih=>exact Il ih h1 h2
 | rep hb _ ih=>exact smP_rep ih _ _ (fun m e=>by subst e;exact hb.1)
 | @row l _ ih=>
  have z:=Hg text l
  have:=smP_row (text:=text) (l.map fun x=>((x.pi,x.rl text):Mn)) (fun p hp=>by
   obtain⟨x,hx,rfl⟩:=List.mem_map.1 hp
   exact ih x hx)
  rw[z.1,z.2] at this;exact this
 | @brs l hl _ ih=>
  have z:=Hg text l
  have:=yq (text:=text) (l.map fun x=>((x.pi,x.rl text):Mn)) (by simpa using hl) (fun p hp=>by
   obtain⟨x,hx,rfl⟩:=List.mem_map.1 hp
   exact ih x hx)
  rw[z.1,z.2] at this;exact this
structure xT(G:Nat)(x:Pn):Prop where
 ok:x.Ok
 g:G<=9
 sz:x.pi.sz<=300
 len:1+x.pi.len<=601
 dd:(1+x.pi.len)*(x.pi.dd+1)<=9000
def Ej(src:ByteArray)(fr E pl:Nat):Prop:=∀w:World,Nm w->Calls Tryz.prog 46 #[.string src,.int .i64 (fr:Int)] w fun e w'=>e=Flt E pl/\Kp [] w w'
section
variable {src:ByteArray}{fr:Nat}
theorem AX(h:100+fr<src.size)(hsz:src.size<4611686018427387904):Ej src fr 1 fr:=by
 intro w _;have hlen:IntKind.i64.wrap ((src.size:Int)-(fr:Int))=((src.size-fr:Nat):Int):=by rw[IntKind.wrap_i64];omega
 have hlen2:(100:Int)<((src.size-fr:Nat):Int):=by omega
 clear h;go_enter Tryz.func46,Tryz.ntmps46
 go_wp2_with fail;exact⟨rfl,rfl,Kp.refl _ _⟩
theorem pU{pl:Nat}(hs:src.size<=2000)(hf:fr<=src.size)(h1:src.size<=100+fr)(h:fO 87 src fr 0 pl):Ej src fr 2 pl:=by
 intro w hw;have hb0:w.heap.size≠4:=by have:=hw.lt;omega
 obtain⟨o,ho⟩:∃o:Obj,o=.cells #[.string src,.int .i64 (fr:Int),.int .i64 2,.int .i64 0] 137:=⟨_,rfl⟩;have k0:=Kp.alloc [] w o;have r0:Rd (w.alloc o) w.heap.size src fr 0:=by
  rw[ho];exact⟨by simp,hf,hs,by simp,by simp,by simp,by simp,fun i=>by simp⟩
 have hlen:IntKind.i64.wrap ((src.size:Int)-(fr:Int))=((src.size-fr:Nat):Int):=by rw[IntKind.wrap_i64];omega
 have hlen2:¬(100:Int)<((src.size-fr:Nat):Int):=by omega
 go_enter Tryz.func46,Tryz.ntmps46
 go_wp2_with fail;rw[<-ho];refine(h _ _ hb0 r0 (hw.aj k0 (by simp))).mono ?_;rintro e w1 ⟨rfl,k1⟩;go_wp2_with fail;exact⟨rfl,rfl,(Kp.own (x:=w.heap.size) ((k0.mono (by simp)).trans k1) (QD _))⟩
theorem Fh{G:Nat}{p:Pi}(hs:src.size<=2000)(hf:fr<=src.size)(h1:src.size<=100+fr)(h:LJ src fr G p)(hp:p.sz=301):Ej src fr 3 src.size:=by
 intro w hw;have hb0:w.heap.size≠4:=by have:=hw.lt;omega
 obtain⟨o,ho⟩:∃o:Obj,o=.cells #[.string src,.int .i64 (fr:Int),.int .i64 2,.int .i64 0] 137:=⟨_,rfl⟩;have k0:=Kp.alloc [] w o;have r0:Rd (w.alloc o) w.heap.size src fr 0:=by
  rw[ho];exact⟨by simp,hf,hs,by simp,by simp,by simp,by simp,fun i=>by simp⟩
 have hlen:IntKind.i64.wrap ((src.size:Int)-(fr:Int))=((src.size-fr:Nat):Int):=by rw[IntKind.wrap_i64];omega
 have hlen2:¬(100:Int)<((src.size-fr:Nat):Int):=by omega
 go_enter Tryz.func46,Tryz.ntmps46
 go_wp2_with fail;rw[<-ho];refine(h _ _ hb0 r0 (hw.aj k0 (by simp))).mono ?_;rintro e w1 ⟨i,rfl,htv,⟨e1,e2,e3,e4⟩,⟨lo,hi,hhi,nd⟩,r1,k1⟩;obtain⟨fs,m1,_,cs⟩:=nd.sized;have q1:=m1 w1;rw[htv] at q1;have hfs:fs=224:=Jr (q1.symm.trans (dL i.xv w1));subst hfs;have CS:=hid (cs w1 (Same.refl lo hhi));rw[e1,hp] at CS;clear cs m1 q1 nd h hp e1 e2 e3 e4;unfold It.v;rw[htv];have hm:=dL;obtain⟨xv,hxv⟩:∃xv,i.xv=xv:=⟨_,rfl⟩;rw[hxv] at CS ⊢;go_wp2_with fail;refine CS.out.mono ?_;rintro e w2 ⟨rfl,k2⟩;clear hm;go_wp2_with fail;exact⟨rfl,rfl,(Kp.own (x:=w.heap.size) ((k0.mono (by simp)).trans (k1.trans (k2.mono (by simp)))) (QD _))⟩
theorem AW(hs:src.size<=2000)(hf:fr<=src.size):match iP src fr with
  | .ok (G,x)=>xT G x/\src.size<=100+fr/\Reads src fr G (1+x.pi.len) ((x.pi.em 1 0 0).2:Nat) x.pi.dd (de (codeOf x.pi))
  | .error (E,pl)=>Ej src fr E pl/\1<=E/\E<=3:=by
 unfold iP;by_cases h1:100+fr<src.size
 .rw[QB h1];exact⟨AX h1 (by omega),by omega,by omega⟩
 rw[Qw h1];have hb:=(Dh src (4*(src.size-fr)+4)).2.2.2.2 fr 0 hf (by omega) (by omega) (by omega);unfold BrsR at hb
 cases hr:Aq src (4*(src.size-fr)+4) fr 0 with
 | error pl=>
  rw[hr] at hb;exact⟨pU hs hf (by omega) (Eo hb),by omega,by omega⟩
 | ok p=>
  obtain⟨l,g,x⟩:=p;rw[hr] at hb;obtain⟨b1,b2,b3,b4,b5,b6,b7,b8⟩:=hb;dsimp only;by_cases hl:l<src.size
  .rw[QB hl];exact⟨pU hs hf (by omega) (En b1 hl),by omega,by omega⟩
  .rw[Qw hl];have e:l=src.size:=by omega
   subst e;by_cases hz:300<x.pi.sz
   .rw[QB hz];exact⟨Fh hs hf (by omega) (yD b1) (by omega),by omega,by omega⟩
   .rw[Qw hz];have hlen:=b6 (by omega);have hok:=(Dy src _).2.2.2.2 _ _ _ _ _ (by omega) hr;have hd:x.pi.dd<=10:=by omega
    refine⟨⟨hok.1,b5,by omega,by omega,?_⟩,by omega,Fc (yD b1) (by omega) (by omega)⟩
    calc (1+x.pi.len)*(x.pi.dd+1)<=601*11:=RI (by omega) (by omega)
     _<=9000:=by omega
end
structure Ptn where
 txt:ByteArray
 G:Nat
 x:Pn
inductive eE
 | num (n:Nat)
 | last
 | pat (p:Ptn)
structure Wr where
 src:ByteArray
 plain:List UInt8
abbrev noB:ByteArray:=⟨#[]⟩
abbrev noW:Wr:=⟨noB,[]⟩
structure aH where
 fw:List eE
 range:Nat
 neg:Bool
 what:Nat
 label:ByteArray
 goal:Nat
 name:ByteArray
 file:Nat
 status:Nat
 text:Wr
 pat:Option Ptn
 new:Wr
 dr:List (Nat×Nat)
 all:Bool
 number:Nat
 print:Bool
 jM:Wr
 yto:Wr
def dH(l:List eE)(r:Nat)(n:Bool)(x:Nat):aH:=⟨l,r,n,x,noB,0,noB,0,0,noW,none,noW,[],false,0,false,noW,noW⟩
structure RdS where
 aD:List aH
 names:List ByteArray
 ranges:Nat
 blocks:List Nat
 labels:List (ByteArray×Nat)
 wanted:List (Nat×Nat)
abbrev xV:=Nat×Nat
def uM(s:ByteArray)(lo hi f:Nat):Nat->Nat->Nat->Except Nat (Nat×Nat)
 | 0,v,k=>.ok (k,v)
 | n+1,v,k=>if isD s k then (if (v=0/\f<k)\/10*v+dgt s k<lo\/hi<10*v+dgt s k then .error k else uM s lo hi f n (10*v+dgt s k) (k+1)) else .ok (k,v)
def pZ(s:ByteArray)(lo hi k:Nat):Except Nat (Nat×Nat):=uM s lo hi k (s.size+1) 0 k
def wdE(s:ByteArray)(f:Nat):Nat->Nat->Except Nat Nat
 | 0,k=>.error k
 | n+1,k=>if isW s k then (if k-f=8 then .error k else wdE s f n (k+1)) else if k=f then .error k else .ok k
def dT(s:ByteArray)(k:Nat):Except Nat (Nat×ByteArray):=
 match wdE s (blk s k) (s.size+1) (blk s k) with
 | .error pl=>.error pl
 | .ok e=>.ok (e,s.extract (blk s k) e)
def ptE(s:ByteArray):Nat->Nat->Except Nat Nat
 | 0,k=>.error k
 | n+1,k=>if k<s.size/\saw s k 10=false then
   if saw s k 47 then .ok (k+1)
   else if saw s k 92 then (if k+1<s.size/\saw s (k+1) 10=false then ptE s n (k+2) else .error (k+1)) else ptE s n (k+1)
  else .error k
def oL(s:ByteArray)(k:Nat):Except xV (Nat×Ptn):=
 if saw s k 47 then
  match ptE s (s.size+1) (k+1) with
  | .error pl=>.error (4,pl)
  | .ok e=>match iP (s.extract 0 (e-1)) (k+1) with
   | .error q=>.error q
   | .ok (G,x)=>.ok (e,⟨s.extract (k+1) (e-1),G,x⟩)
 else .error (4,k)
def nV(s:ByteArray)(k:Nat):Except xV (Nat×eE):=
 if isD s k then
  match pZ s 1 1000000 k with
  | .error pl=>.error (4,pl)
  | .ok (e,v)=>.ok (e,.num v)
 else if saw s k 36 then .ok (k+1,.last)
 else match oL s k with
  | .error q=>.error q
  | .ok (e,p)=>.ok (e,.pat p)
def gH(s:ByteArray)(k:Nat):Except xV (Nat×List eE):=
 if isA s k then
  match nV s k with
  | .error q=>.error q
  | .ok (e,a)=>if saw s e 44 then
    (match nV s (e+1) with
      | .error q=>.error q
      | .ok (e2,b)=>.ok (e2,[a,b]))
   else .ok (e,[a])
 else .ok (k,[])
def Qc(u:UInt8):UInt8:=if u=110 then 10 else if u=116 then 9 else u
def gX(s esc:ByteArray)(k:Nat):Except Nat (Nat×UInt8):=
 if saw s k 92 then
  if h:k+1<s.size then (if Lib.indexByte esc.data.toList (s[k+1]'h)<0 then .error k else .ok (k+2,Qc (s[k+1]'h))) else .error k
 else if h:k<s.size then .ok (k+1,s[k]'h) else .error k
def Qd:ByteArray:=⟨#[110,116,92]⟩
def D0:ByteArray:=⟨#[110,116,92,47]⟩
def escN:ByteArray:=⟨#[110,116,92,47,38]⟩
def fP(s:ByteArray):Nat->Nat->List UInt8->Except Nat (Nat×List UInt8)
 | 0,k,_=>.error k
 | n+1,k,acc=>if k<s.size/\saw s k 10=false then
   (match gX s Qd k with
     | .error pl=>.error pl
     | .ok (l,c)=>fP s n l (acc++[c]))
  else .ok (k,acc)
def nI(s:ByteArray)(G k:Nat):Option (Nat×Nat):=
 if saw s k 38 then some (k+1,0)
 else if saw s k 92 then (if h:k+1<s.size then (if 49<=(s[k+1]'h).toNat/\(s[k+1]'h).toNat<=48+G then some (k+2,(s[k+1]'h).toNat-48) else none) else none)
 else none
def oe(s:ByteArray)(G:Nat):Nat->Nat->List UInt8->List (Nat×Nat)->Except Nat (Nat×List UInt8×List (Nat×Nat))
 | 0,k,_,_=>.error k
 | n+1,k,acc,hs=>if k<s.size/\saw s k 10=false then
   if saw s k 47 then .ok (k+1,acc,hs)
   else match nI s G k with
    | some (l,g)=>oe s G n l acc (hs++[(acc.length,g)])
    | none=>match gX s escN k with
     | .error pl=>.error pl
     | .ok (l,c)=>oe s G n l (acc++[c]) hs
  else .error k
def gG(s:ByteArray):Nat->Nat->List UInt8->Except Nat (Nat×List UInt8)
 | 0,k,_=>.error k
 | n+1,k,acc=>if k<s.size/\saw s k 10=false then
   if saw s k 47 then .ok (k+1,acc)
   else match gX s D0 k with
    | .error pl=>.error pl
    | .ok (l,c)=>if acc.contains c then .error k else gG s n l (acc++[c])
  else .error k
def toE(s:ByteArray)(m:Nat):Nat->Nat->List UInt8->Except Nat (Nat×List UInt8)
 | 0,k,_=>.error k
 | n+1,k,acc=>if k<s.size/\saw s k 10=false then
   if saw s k 47 then (if acc.length<m then .error k else .ok (k+1,acc))
   else if acc.length=m then .error k
   else match gX s D0 k with
    | .error pl=>.error pl
    | .ok (l,c)=>toE s m n l (acc++[c])
  else .error k
abbrev OpE:=Except xV (Nat×RdS×aH)
def flt4{α:Type}:Except Nat α->Except xV α
 | .error pl=>.error (4,pl)
 | .ok a=>.ok a
def gQ(s:ByteArray)(k:Nat)(r:RdS)(c:aH):OpE:=
 match dT s k with
 | .error pl=>.error (4,pl)
 | .ok (e,x)=>match r.names.findIdx? (x == ·) with
  | some i=>.ok (e,r,{ c with name:=x,file:=i})
  | none=>.ok (e,{ r with names:=r.names++[x]},{ c with name:=x,file:=r.names.length})
def aP(s:ByteArray):Nat->Nat->RdS->aH->OpE
 | 0,k,_,_=>.error (4,k)
 | n+1,k,r,c=>
  if c.all=false/\saw s k 103=true then aP s n (k+1) r { c with all:=true}
  else if c.print=false/\saw s k 112=true then aP s n (k+1) r { c with print:=true}
  else if c.number=0/\isD s k=true then (match pZ s 1 1000000 k with
   | .error pl=>.error (4,pl)
   | .ok (e,v)=>aP s n e r { c with number:=v})
  else if saw s k 119 then gQ s (k+1) r c
  else .ok (k,r,c)
def aG(s:ByteArray)(k:Nat)(r:RdS)(c:aH):OpE:=
 if c.what=123 then (if r.blocks.length=8 then .error (6,k-1) else .ok (k,{ r with blocks:=r.blocks++[r.aD.length]},c))
 else if c.what=125 then
  (match r.blocks.getLast? with
    | none=>.error (6,k-1)
    | some i=>.ok (k,{ r with blocks:=r.blocks.dropLast,aD:=r.aD.modify i fun d=>{ d with goal:=r.aD.length}},c))
 else if c.what=58 then
  (match dT s k with
    | .error pl=>.error (4,pl)
    | .ok (e,x)=>if r.labels.any (x == ·.1) then .error (5,e-x.size) else .ok (e,{ r with labels:=r.labels++[(x,r.aD.length)]},{ c with label:=x}))
 else if c.what=98\/c.what=116 then
  (if isW s (blk s k) then
    (match dT s (blk s k) with
      | .error pl=>.error (4,pl)
      | .ok (e,x)=>.ok (e,{ r with wanted:=r.wanted++[(r.aD.length,e-x.size)]},{ c with label:=x}))
  else .ok (blk s k,{ r with wanted:=r.wanted++[(r.aD.length,blk s k)]},c))
 else if c.what=97\/c.what=105\/c.what=99 then
  (match fP s (s.size+1) (blk s k) [] with
    | .error pl=>.error (4,pl)
    | .ok (e,l)=>.ok (e,r,{ c with text:=⟨s.extract (blk s k) e,l⟩}))
 else if c.what=115 then
  (match oL s k with
    | .error q=>.error q
    | .ok (e,p)=>match oe s p.G (s.size+1) e [] [] with
     | .error pl=>.error (4,pl)
     | .ok (e2,l,hs)=>aP s (s.size+1) e2 r { c with pat:=some p,new:=⟨s.extract e (e2-1),l⟩,dr:=hs})
 else if c.what=121 then
  (if saw s k 47 then
    (match gG s (s.size+1) (k+1) [] with
      | .error pl=>.error (4,pl)
      | .ok (e,l)=>match toE s l.length (s.size+1) e [] with
       | .error pl=>.error (4,pl)
       | .ok (e2,l2)=>.ok (e2,r,{ c with jM:=⟨s.extract (k+1) (e-1),l⟩,yto:=⟨s.extract e (e2-1),l2⟩}))
  else .error (4,k))
 else if c.what=113 then
  (match pZ s 0 255 (blk s k) with
    | .error pl=>.error (4,pl)
    | .ok (e,v)=>.ok (e,r,{ c with status:=v}))
 else if c.what=119 then gQ s k r c
 else .ok (k,r,c)
def iK:List Nat:=[123,125,58,98,116,97,105,99,115,121,113,119,100,68,103,71,104,72,120,110,78,112,80,108,61]
def tI(s:ByteArray)(k:Nat)(r:RdS):Except xV (Nat×RdS):=
 match gH s k with
 | .error q=>.error q
 | .ok (k1,L)=>
  let nt:=saw s (blk s k1) 33
  let k3:=if nt then blk s (blk s k1+1) else blk s k1
  let r1:=if L.length=2 then { r with ranges:=r.ranges+1} else r
  if h:k3<s.size then
   let x:=(s[k3]'h).toNat
   if iK.contains x=false then .error (4,k3)
   else if (x=125\/x=58)/\(nt=true\/L≠[]) then .error (4,k3)
   else match aG s (k3+1) r1 (dH L (if L.length=2 then r.ranges else 0) nt x) with
    | .error q=>.error q
    | .ok (e,r2,c)=>
     if x=123 then .ok (e,{ r2 with aD:=r2.aD++[c]})
     else if iD s (blk s e) then .ok (blk s e,{ r2 with aD:=r2.aD++[c]}) else .error (4,blk s e)
  else .error (4,k3)
def Gx(s:ByteArray):Nat->Nat->Nat
 | 0,k=>k
 | n+1,k=>if k<s.size/\saw s k 10=false then Gx s n (k+1) else k
def oU(s:ByteArray):Nat->Nat->Nat
 | 0,k=>k
 | n+1,k=>if saw s k 35 then oU s n (Gx s (s.size+1) k) else if saw s k 10||saw s k 59||isB s k then oU s n (k+1) else k
def eR(s:ByteArray):Nat->Nat->RdS->Except xV RdS
 | 0,k,_=>.error (4,k)
 | n+1,k,r=>
  if oU s (s.size+1) k<s.size then
   match tI s (oU s (s.size+1) k) r with
   | .error q=>.error q
   | .ok (e,r2)=>eR s n e r2
  else .ok r
def dE:List (Nat×Nat)->RdS->Except xV RdS
 | [],r=>.ok r
 | (i,pl)::l,r=>match r.aD[i]? with
  | none=>.error (4,pl)
  | some c=>if c.label.size=0 then dE l { r with aD:=r.aD.set i { c with goal:=r.aD.length}}
   else match r.labels.find? (c.label == ·.1) with
    | none=>.error (5,pl)
    | some (_,n)=>dE l { r with aD:=r.aD.set i { c with goal:=n}}
structure fN where
 quiet:Bool
 aD:List aH
 names:List ByteArray
 ranges:Nat
def rd0:RdS:=⟨[],[],0,[],[],[]⟩
def lQ(s:ByteArray):Except xV fN:=
 if 2000<s.size then .error (1,0) else
 match eR s (s.size+1) 0 rd0 with
 | .error q=>.error q
 | .ok r=>if r.blocks≠[] then .error (6,s.size) else
  match dE r.wanted r with
  | .error q=>.error q
  | .ok r2=>.ok ⟨qtB s,r2.aD,r2.names,r2.ranges⟩
def Ptn.cd(q:Ptn):Nat->In:=cdL (codeOf q.x.pi)
def Ptn.n(q:Ptn):Nat:=1+q.x.pi.len
def Ptn.D(q:Ptn):Nat:=q.x.pi.dd
def Ptn.bg(q:Ptn):Nat:=(q.x.pi.em 1 0 0).2
def Srch(q:Ptn)(t:ByteArray)(fr:Nat)(s s':Mc):Prop:=oW q.cd q.n q.D t q.bg (t.size+1-fr) fr [] { s with fd:=false} s'
open Classical in
noncomputable def Ev(q:Ptn)(t:ByteArray)(fr:Nat)(s:Mc):Mc:=if h:∃s',Srch q t fr s s' then h.choose else { s with fd:=false}
noncomputable def LW(q:Ptn)(t:ByteArray):Nat->Nat->Mc->List (Nat->Int)
 | 0,_,_=>[]
 | k+1,fr,s=>if (Ev q t fr s).fd then (Ev q t fr s).fc::LW q t k ((Ev q t fr s).fc 1).toNat (Ev q t fr s) else []
noncomputable def Ptn.LV(q:Ptn)(t:List UInt8):List (Nat->Int):=LW q (ba t) (((ba t).size+1)*(q.n*(q.D+1))+1) 0 mc0
noncomputable def Ptn.hit(q:Ptn)(t:List UInt8):Bool:=(Ev q (ba t) 0 mc0).fd
inductive Wn
 | no
 | bw
 | gw
 | gm
deriving DecidableEq
abbrev gwV:Value:=.func (.func 123) #[] #[]
def Wn.v:Wn->Value
 | .no=>.nilFunc
 | .bw=>bwV
 | .gw=>gwV
 | .gm=>gmV
structure Ust where
 left:List UInt8
 ahead:Bool
 ended:Bool
 count:Nat
 number:Nat
 space:List UInt8
 held:List UInt8
 aR:Wn
 pc:Nat
 steps:Nat
 gU:Bool
 over:Bool
 err:Nat
 status:Nat
 out:List UInt8
 fb:List (List UInt8)
 rg:List Bool
 br:List (List UInt8)
def Ust.p(u:Ust):Pst:=⟨ba u.left,u.ahead,u.ended,u.count,u.number,ba u.space,ba u.held,u.aR.v,u.pc,u.steps,u.gU,u.over,u.err,u.status,u.out,u.fb,u.rg,u.br.map ba⟩
def ua(ah:Bool)(nf nr:Nat):Ust:=⟨[],ah,false,0,0,[],[],.bw,0,0,false,false,0,0,[],List.replicate nf [],List.replicate nr false,[]⟩
abbrev RU:=Except (Nat×Ust) Ust
namespace Ust
def tell(t:List UInt8)(u:Ust):RU:=
 if 200000<u.count+t.length+1 then .error (10,{ u with count:=u.count+t.length+1}) else .ok { u with count:=u.count+t.length+1,out:=u.out++t++[10]}
def write(i:Nat)(t:List UInt8)(u:Ust):RU:=
 if 200000<u.count+t.length+1 then .error (10,{ u with count:=u.count+t.length+1}) else .ok { u with count:=u.count+t.length+1,fb:=u.fb.modify i (fun x=>x++t++[10])}
def jy:List (List UInt8)->Ust->RU
 | [],u=>.ok u
 | t::l,u=>match u.tell t with
  | .error e=>.error e
  | .ok u1=>jy l u1
def brought(u:Ust):RU:=match jy u.br u with
 | .error e=>.error e
 | .ok u1=>.ok { u1 with br:=[]}
def fj(q:Bool)(u:Ust):RU:=match (if q then .ok u else u.tell u.space:RU) with
 | .error e=>.error e
 | .ok u1=>u1.brought
def eZ(q:Bool)(u:Ust):RU:=match u.fj q with
 | .error e=>.error e
 | .ok u1=>.ok { u1 with aR:=.bw}
def aO(u:Ust):RU:=match u.brought with
 | .error e=>.error e
 | .ok u1=>.ok { u1 with aR:=.bw}
def ic(q:Bool)(st:Nat)(u:Ust):RU:=match u.eZ q with
 | .error e=>.error e
 | .ok u1=>.ok { u1 with over:=true,status:=st}
def tM(sp:List UInt8)(u:Ust):Ust:={ u with space:=sp,pc:=0,gU:=false}
def none_(u:Ust):Bool:=u.ended&&u.left.isEmpty
noncomputable def says(u:Ust):eE->Bool
 | .num n=>u.number==n
 | .last=>u.none_
 | .pat q=>q.hit u.space
noncomputable def fL(i:Nat)(a b:eE)(u:Ust):Bool×Ust:=
 match b with
 | .num n=>(u.rg.getD i false||u.says a,{ u with rg:=u.rg.set i ((u.rg.getD i false||u.says a)&&decide (u.number<n))})
 | b=>if u.rg.getD i false then (true,{ u with rg:=u.rg.set i (!u.says b)}) else (u.says a,{ u with rg:=u.rg.set i (u.says a)})
noncomputable def addressed(c:aH)(u:Ust):Bool×Ust:=
 match c.fw with
 | []=>(true,u)
 | [a]=>(u.says a,u)
 | a::b::_=>u.fL c.range a b
end Ust
def eJ:List UInt8->List UInt8×Option (List UInt8)
 | []=>([],none)
 | c::l=>if c=10 then ([],some l) else (c::(eJ l).1,(eJ l).2)
def jF(plain sp:List UInt8)(b:Nat->Int):Nat->List (Nat×Nat)->List UInt8
 | d,[]=>plain.drop d
 | d,(a,g)::hs=>(plain.take a).drop d++((if 0<=b (2*g) then (sp.take (b (2*g+1)).toNat).drop (b (2*g)).toNat else [])++jF plain sp b a hs)
structure Rst where
 cnt:Nat
 acc:List UInt8
 done:Nat
 ok:Bool
def fX(c:aH)(sp:List UInt8):List (Nat->Int)->Rst->Rst
 | [],r=>r
 | b::bs,r=>if r.cnt+1<c.number then fX c sp bs { r with cnt:=r.cnt+1}
  else
   let r1:Rst:=⟨r.cnt+1,r.acc++(sp.take (b 0).toNat).drop r.done++jF c.new.plain sp b 0 c.dr,(b 1).toNat,true⟩
   if c.all=false\/4000<r1.acc.length then r1 else fX c sp bs r1
noncomputable def oC(c:aH)(sp:List UInt8):Option (List UInt8):=
 match c.pat with
 | none=>none
 | some q=>if (fX c sp (q.LV sp) ⟨0,[],0,false⟩).ok then some ((fX c sp (q.LV sp) ⟨0,[],0,false⟩).acc++sp.drop (fX c sp (q.LV sp) ⟨0,[],0,false⟩).done) else none
def turnB(fr tz:List UInt8)(c:UInt8):UInt8:=match (fr.zip tz).reverse.find? (fun p=>p.1==c) with
 | some p=>p.2
 | none=>c
def jC(b:UInt8):List UInt8:=
 if b=92 then [92,92] else if b=10 then [92,110] else if b=9 then [92,116] else if b<32\/126<b then [92,UInt8.ofNat (48+b.toNat/64),UInt8.ofNat (48+b.toNat/8%8),UInt8.ofNat (48+b.toNat%8)] else [b]
def ra(t:List UInt8):List UInt8:=t.flatMap jC++[36]
namespace Ust
def lu(a b:List UInt8)(f:List UInt8->Ust)(u:Ust):RU:=if 4000<(a++10::b).length then .error (8,u) else .ok (f (a++10::b))
noncomputable def replace(c:aH)(u:Ust):RU:=
 match oC c u.space with
 | none=>.ok u
 | some t=>if 4000<t.length then .error (8,u) else
  match (if c.print then ({ u with space:=t,gU:=true}:Ust).tell t else .ok { u with space:=t,gU:=true}:RU) with
  | .error e=>.error e
  | .ok u1=>if c.name.size=0 then .ok u1 else u1.write c.file u1.space
noncomputable def lB(q:Bool)(c:aH)(u:Ust):RU:=
 if c.what=123 then .ok u
 else if c.what=98 then .ok { u with pc:=c.goal}
 else if c.what=116 then .ok (if u.gU then { u with gU:=false,pc:=c.goal} else u)
 else if c.what=97 then .ok { u with br:=u.br++[c.text.plain]}
 else if c.what=105 then u.tell c.text.plain
 else if c.what=99 then (match (if c.fw.length=2/\c.neg=false/\u.rg.getD c.range false=true then .ok u else u.tell c.text.plain:RU) with
  | .error e=>.error e
  | .ok u1=>u1.aO)
 else if c.what=115 then u.replace c
 else if c.what=121 then .ok { u with space:=u.space.map (turnB c.jM.plain c.yto.plain)}
 else if c.what=100 then u.aO
 else if c.what=68 then (match (eJ u.space).2 with
  | none=>u.aO
  | some rest=>match u.brought with
   | .error e=>.error e
   | .ok u1=>.ok (u1.tM rest))
 else if c.what=103 then .ok { u with space:=u.held}
 else if c.what=71 then lu u.space u.held (fun t=>{ u with space:=t}) u
 else if c.what=104 then .ok { u with held:=u.space}
 else if c.what=72 then lu u.held u.space (fun t=>{ u with held:=t}) u
 else if c.what=120 then .ok { u with space:=u.held,held:=u.space}
 else if c.what=110 then (if u.none_ then u.ic q 0 else match u.fj q with
  | .error e=>.error e
  | .ok u1=>.ok { u1 with aR:=.gw})
 else if c.what=78 then (if u.none_ then u.ic q 0 else match u.brought with
  | .error e=>.error e
  | .ok u1=>.ok { u1 with aR:=.gm})
 else if c.what=112 then u.tell u.space
 else if c.what=80 then u.tell (eJ u.space).1
 else if c.what=108 then u.tell (ra u.space)
 else if c.what=61 then u.tell (Lib.decDigits u.number)
 else if c.what=113 then u.ic q c.status
 else if c.what=119 then u.write c.file u.space
 else .ok u
noncomputable def look(S:fN)(u:Ust):RU:=
 match S.aD[u.pc]? with
 | none=>u.eZ S.quiet
 | some c=>
  let u1:Ust:={ u with pc:=u.pc+1}
  if c.what=125\/c.what=58 then .ok u1
  else
   let u2:Ust:={ u1 with steps:=u1.steps+1}
   if 2000<u2.steps then .error (7,u2)
   else
    let r:=u2.addressed c
    if r.1!=c.neg then r.2.lB S.quiet c else if c.what=123 then .ok { r.2 with pc:=c.goal} else .ok r.2
def there(u:Ust):Bool:=
 if u.ended then !u.left.isEmpty else if u.ahead then !((eJ u.left).2.getD []).isEmpty else (eJ u.left).2.isSome
def dt(u:Ust):Except (Nat×Ust) (Option Ust):=
 match u.aR with
 | .no=>.ok (some u)
 | wn=>if 1000<(eJ u.left).1.length then .error (9,u)
  else if u.there then
   let u1:Ust:={ u with left:=(eJ u.left).2.getD [],number:=u.number+1,aR:=.no}
   match wn with
   | .gw=>.ok (some { u1 with space:=(eJ u.left).1})
   | .gm=>(match lu u1.space (eJ u.left).1 (fun t=>{ u1 with space:=t}) u1 with
    | .error e=>.error e
    | .ok u2=>.ok (some u2))
   | _=>.ok (some ({ u1 with steps:=0}.tM (eJ u.left).1))
  else .ok none
noncomputable def AM(S:fN):Nat->Ust->Except (Nat×Ust) Ust
 | 0,u=>.ok u
 | n+1,u=>if u.over then .ok u else
  match u.dt with
  | .error e=>.error e
  | .ok none=>.ok u
  | .ok (some u1)=>match u1.look S with
   | .error e=>.error e
   | .ok u2=>AM S n u2
def fuel(S:fN)(u:Ust):Nat:=(u.left.length+1)*(2002*(S.aD.length+2)+S.aD.length+3)
noncomputable def run(S:fN)(u:Ust):Ust:=
 match AM S (u.fuel S) u with
 | .error (e,u1)=>{ u1 with over:=true,err:=e}
 | .ok u1=>u1
structure Rep where
 out:List UInt8
 over:Bool
 err:Nat
 status:Nat
def qX(u:Ust):Rep×Ust:=(⟨u.out,u.over,u.err,u.status⟩,{ u with out:=[],left:=if u.over then [] else u.left})
noncomputable def feed(S:fN)(d:List UInt8)(u:Ust):Rep×Ust:=(if u.over then u else ({ u with left:=u.left++d}:Ust).run S).qX
noncomputable def end_(S:fN)(u:Ust):Rep×Ust:=(if u.over then u else { ({ u with ended:=true}:Ust).run S with over:=true}).qX
end Ust
