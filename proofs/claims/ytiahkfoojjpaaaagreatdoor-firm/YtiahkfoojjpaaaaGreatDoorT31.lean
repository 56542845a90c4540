import Derived.Test.YtiahkfoojjpaaaaGreatDoorT20
import Derived.Test.YtiahkfoojjpaaaaGreatDoorT30
set_option maxRecDepth 100000
set_option maxHeartbeats 16000000
set_option linter.all false
namespace Go.Proofs.YtiahkfoojjpaaaaGreatDoor
open Go.RowKit
inductive Pn.Ok:Pn->Prop
 | one (m:Nat->Bool):Pn.Ok (.one m)
 | Ee {k:Nat} (h:k=1\/k=2):Pn.Ok (.Ee k)
 | group {g:Nat} {x:Pn} (h1:1<=g) (h2:g<=9) (h:Pn.Ok x):Pn.Ok (.group g x)
 | rep {x:Pn} {a:Nat} {b:Option Nat} (hb:okB a b) (h:Pn.Ok x):Pn.Ok (.rep x a b)
 | row {l:List Pn} (h:∀ x∈l,Pn.Ok x):Pn.Ok (.row l)
 | brs {l:List Pn} (hl:l≠[]) (h:∀ x∈l,Pn.Ok x):Pn.Ok (.brs l)
theorem rep_ok {src:ByteArray} {k l:Nat} {r:Option (Nat×Option Nat)} (hk:k<=src.size) (h:repP src k=.ok (l,r)):okR r:=by
 have:=rep_g (src:=src) (k:=k) hk;rw [h] at this;exact this.1
theorem Pn.Ok.times {x:Pn} (h:x.Ok) {r:Option (Nat×Option Nat)} (hr:okR r):(x.times r).Ok:=by
 cases r with
 | none=>exact h
 | some p=>exact .rep hr h
theorem JY {src:ByteArray} {k:Nat} (h:src.size < k):repP src k=.ok (k,none):=by
 have hs:∀ x,saw src k x=false:=fun x=>by unfold saw;rw [dif_neg (by omega)]
 simp [repP,hs]
theorem Bw (src:ByteArray):∀ n,(∀ k g l g' x,g<=9->atomP src n k g=.ok (l,g',x)->x.Ok/\g<=g'/\g'<=9) /\
  (∀ k g l g' x,g<=9->pieceP src n k g=.ok (l,g',x)->x.Ok/\g<=g'/\g'<=9) /\
  (∀ k g l g' xs,g<=9->rowP src n k g=.ok (l,g',xs)->(∀ x∈xs,Pn.Ok x)/\g<=g'/\g'<=9) /\
  (∀ k g l g' xs,g<=9->te src n k g=.ok (l,g',xs)->(∀ x∈xs,Pn.Ok x)/\g<=g'/\g'<=9) /\
  (∀ k g l g' x,g<=9->LZ src n k g=.ok (l,g',x)->x.Ok/\g<=g'/\g'<=9)
 | 0=>⟨fun _ _ _ _ _ _ h=>(by unfold atomP at h;cases h),fun _ _ _ _ _ _ h=>(by unfold pieceP at h;cases h),fun _ _ _ _ _ _ h=>(by unfold rowP at h;cases h),fun _ _ _ _ _ _ h=>(by unfold te at h;cases h),fun _ _ _ _ _ _ h=>(by unfold LZ at h;cases h)⟩
 | n+1=>by
  obtain ⟨hA,hP,hR,hM,hB⟩:=Bw src n;refine ⟨fun k g l g' x hg h=>?_,fun k g l g' x hg h=>?_,fun k g l g' xs hg h=>?_,fun k g l g' xs hg h=>?_,fun k g l g' x hg h=>?_⟩
  .unfold atomP at h;split at h
   .split at h
    .cases h
    .split at h
     .cases h
     .rename_i h9 _ l1 g1 x1 hb;split at h
      .injection h with h;injection h with h1 h;injection h with h2 h3;subst h1 h2 h3;obtain ⟨b1,b2,b3⟩:=hB _ _ _ _ _ (by omega) hb;exact ⟨.group (by omega) (by omega) b1,by omega,b3⟩
      .cases h
   .split at h
    .injection h with h;injection h with h1 h;injection h with h2 h3;subst h1 h2 h3;exact ⟨.one _,Nw _,hg⟩
    .split at h
     .split at h
      .cases h
      .injection h with h;injection h with h1 h;injection h with h2 h3;subst h1 h2 h3;exact ⟨.one _,Nw _,hg⟩
     .split at h
      .cases h
      .injection h with h;injection h with h1 h;injection h with h2 h3;subst h1 h2 h3;exact ⟨.one _,Nw _,hg⟩
  .unfold pieceP at h;split at h
   .injection h with h;injection h with h1 h;injection h with h2 h3;subst h1 h2 h3;exact ⟨.Ee (.inl rfl),Nw _,hg⟩
   .split at h
    .injection h with h;injection h with h1 h;injection h with h2 h3;subst h1 h2 h3;exact ⟨.Ee (.inr rfl),Nw _,hg⟩
    .split at h
     .cases h
     .rename_i l1 g1 x1 ha;split at h
      .cases h
      .rename_i l2 r hr;injection h with h;injection h with h1 h;injection h with h2 h3;subst h1 h2 h3;obtain ⟨a1,a2,a3⟩:=hA _ _ _ _ _ hg ha;refine ⟨a1.times ?_,a2,a3⟩;by_cases hl:l1<=src.size
       .exact rep_ok hl hr
       .rw [JY (by omega)] at hr;injection hr with hr;injection hr with _ hr;subst hr
        trivial
  .unfold rowP at h;split at h
   .split at h
    .cases h
    .rename_i l1 g1 x1 ha;split at h
     .cases h
     .rename_i l2 g2 xs2 hr;injection h with h;injection h with h1 h;injection h with h2 h3;subst h1 h2 h3;obtain ⟨a1,a2,a3⟩:=hP _ _ _ _ _ hg ha;obtain ⟨c1,c2,c3⟩:=hR _ _ _ _ _ a3 hr
      exact ⟨fun x hx=>by
       rcases List.mem_cons.1 hx with e | e
       .subst e;exact a1
       .exact c1 x e,by omega,c3⟩
   .injection h with h;injection h with h1 h;injection h with h2 h3;subst h1 h2 h3;exact ⟨fun x hx=>(by cases hx),Nw _,hg⟩
  .unfold te at h;split at h
   .split at h
    .cases h
    .rename_i l1 g1 x1 ha;split at h
     .cases h
     .rename_i l2 g2 xs2 hr;injection h with h;injection h with h1 h;injection h with h2 h3;subst h1 h2 h3;obtain ⟨a1,a2,a3⟩:=hR _ _ _ _ _ hg ha;obtain ⟨c1,c2,c3⟩:=hM _ _ _ _ _ a3 hr
      exact ⟨fun x hx=>by
       rcases List.mem_cons.1 hx with e | e
       .subst e;exact .row a1
       .exact c1 x e,by omega,c3⟩
   .injection h with h;injection h with h1 h;injection h with h2 h3;subst h1 h2 h3;exact ⟨fun x hx=>(by cases hx),Nw _,hg⟩
  .unfold LZ at h;split at h
   .cases h
   .rename_i l1 g1 x1 ha;split at h
    .cases h
    .rename_i l2 g2 xs2 hr;injection h with h;injection h with h1 h;injection h with h2 h3;subst h1 h2 h3;obtain ⟨a1,a2,a3⟩:=hR _ _ _ _ _ hg ha;obtain ⟨c1,c2,c3⟩:=hM _ _ _ _ _ a3 hr
     exact ⟨.brs (by simp) fun x hx=>by
      rcases List.mem_cons.1 hx with e | e
      .subst e;exact .row a1
      .exact c1 x e,by omega,c3⟩
mutual
def Pn.rl (text:ByteArray):Pn->Nat->Rl
 | .one m=>mOne text m
 | .Ee k=>fun _=>Kv text k
 | .group g x=>fun d=>BH g (x.rl text d)
 | .rep x a b=>mRep (x.rl text) a b
 | .row l=>Dl (rlL text l)
 | .brs l=>MP (rlL text l)
def rlL (text:ByteArray):List Pn->List (Nat->Rl)
 | []=>[]
 | x::l=>x.rl text::rlL text l
end
theorem Ef (text:ByteArray):∀ l:List Pn,(l.map fun x=>((x.pi,x.rl text):Mn)).map (·.1)=piL l/\(l.map fun x=>((x.pi,x.rl text):Mn)).map (·.2)=rlL text l
 | []=>⟨rfl,rfl⟩
 | x::l=>by
  have:=Ef text l;exact ⟨by simp [piL,this.1],by simp [rlL,this.2]⟩
theorem Pn.Ok.sm (text:ByteArray) {x:Pn} (h:x.Ok):SmP text x.pi (x.rl text):=by
 induction h with
 | one m=>exact smP_one m
 | Ee h=>exact JR _ h
 | group h1 h2 _ ih=>exact Fh ih h1 h2
 | rep hb _ ih=>exact smP_rep ih _ _ (fun m e=>by subst e;exact hb.1)
 | @row l _ ih=>
  have z:=Ef text l
  have:=smP_row (text:=text) (l.map fun x=>((x.pi,x.rl text):Mn)) (fun p hp=>by
   obtain ⟨x,hx,rfl⟩:=List.mem_map.1 hp
   exact ih x hx)
  rw [z.1,z.2] at this;exact this
 | @brs l hl _ ih=>
  have z:=Ef text l
  have:=uK (text:=text) (l.map fun x=>((x.pi,x.rl text):Mn)) (by simpa using hl) (fun p hp=>by
   obtain ⟨x,hx,rfl⟩:=List.mem_map.1 hp
   exact ih x hx)
  rw [z.1,z.2] at this;exact this
structure pR (G:Nat) (x:Pn):Prop where
 ok:x.Ok
 g:G<=9
 sz:x.pi.sz<=300
 len:1+x.pi.len<=601
 dd:(1+x.pi.len) * (x.pi.dd+1)<=9000
def ph (src:ByteArray) (fr E pl:Nat):Prop:=∀ w:World,Nm w->Calls Tryz.prog 46 #[.string src,.int .i64 (fr:Int)] w fun e w'=>e=Flt E pl/\Kp [] w w'
section
variable {src:ByteArray} {fr:Nat}
theorem oe (h:100+fr < src.size) (hsz:src.size < 4611686018427387904):ph src fr 1 fr:=by
 intro w _;have hlen:IntKind.i64.wrap ((src.size:Int) - (fr:Int))=((src.size - fr:Nat):Int):=by rw [IntKind.wrap_i64];omega
 have hlen2:(100:Int) < ((src.size - fr:Nat):Int):=by omega
 clear h;go_enter Tryz.func46,Tryz.ntmps46
 go_wp2_with fail;exact ⟨rfl,rfl,Kp.refl _ _⟩
theorem oc {pl:Nat} (hs:src.size<=2000) (hf:fr<=src.size) (h1:src.size<=100+fr) (h:eY 87 src fr 0 pl):ph src fr 2 pl:=by
 intro w hw;have hb0:w.heap.size≠4:=by have:=hw.lt;omega
 obtain ⟨o,ho⟩:∃ o:Obj,o=.cells #[.string src,.int .i64 (fr:Int),.int .i64 2,.int .i64 0] 137:=⟨_,rfl⟩;have k0:=Kp.alloc [] w o;have r0:Rd (w.alloc o) w.heap.size src fr 0:=by
  rw [ho];exact ⟨by simp,hf,hs,by simp,by simp,by simp,by simp,fun i=>by simp⟩
 have hlen:IntKind.i64.wrap ((src.size:Int) - (fr:Int))=((src.size - fr:Nat):Int):=by rw [IntKind.wrap_i64];omega
 have hlen2:¬ (100:Int) < ((src.size - fr:Nat):Int):=by omega
 go_enter Tryz.func46,Tryz.ntmps46
 go_wp2_with fail;rw [<-ho];refine (h _ _ hb0 r0 (hw.aj k0 (by simp))).mono ?_;rintro e w1 ⟨rfl,k1⟩;go_wp2_with fail;exact ⟨rfl,rfl,(Kp.own (x:=w.heap.size) ((k0.mono (by simp)).trans k1) (Nw _))⟩
theorem CY {G:Nat} {p:Pi} (hs:src.size<=2000) (hf:fr<=src.size) (h1:src.size<=100+fr) (h:Jk src fr G p) (hp:p.sz=301):ph src fr 3 src.size:=by
 intro w hw;have hb0:w.heap.size≠4:=by have:=hw.lt;omega
 obtain ⟨o,ho⟩:∃ o:Obj,o=.cells #[.string src,.int .i64 (fr:Int),.int .i64 2,.int .i64 0] 137:=⟨_,rfl⟩;have k0:=Kp.alloc [] w o;have r0:Rd (w.alloc o) w.heap.size src fr 0:=by
  rw [ho];exact ⟨by simp,hf,hs,by simp,by simp,by simp,by simp,fun i=>by simp⟩
 have hlen:IntKind.i64.wrap ((src.size:Int) - (fr:Int))=((src.size - fr:Nat):Int):=by rw [IntKind.wrap_i64];omega
 have hlen2:¬ (100:Int) < ((src.size - fr:Nat):Int):=by omega
 go_enter Tryz.func46,Tryz.ntmps46
 go_wp2_with fail;rw [<-ho];refine (h _ _ hb0 r0 (hw.aj k0 (by simp))).mono ?_;rintro e w1 ⟨i,rfl,htv,⟨e1,e2,e3,e4⟩,⟨lo,hi,hhi,nd⟩,r1,k1⟩;obtain ⟨fs,m1,_,cs⟩:=nd.sized;have q1:=m1 w1;rw [htv] at q1;have hfs:fs=224:=GY (q1.symm.trans (dD i.xv w1));subst hfs;have CS:=hid (cs w1 (Same.refl lo hhi));rw [e1,hp] at CS;clear cs m1 q1 nd h hp e1 e2 e3 e4;unfold It.v;rw [htv];have hm:=dD;obtain ⟨xv,hxv⟩:∃ xv,i.xv=xv:=⟨_,rfl⟩;rw [hxv] at CS ⊢;go_wp2_with fail;refine CS.out.mono ?_;rintro e w2 ⟨rfl,k2⟩;clear hm;go_wp2_with fail;exact ⟨rfl,rfl,(Kp.own (x:=w.heap.size) ((k0.mono (by simp)).trans (k1.trans (k2.mono (by simp)))) (Nw _))⟩
theorem rO (hs:src.size<=2000) (hf:fr<=src.size):match gI src fr with
  | .ok (G,x)=>pR G x/\src.size<=100+fr/\Reads src fr G (1+x.pi.len) ((x.pi.em 1 0 0).2:Nat) x.pi.dd (aW (codeOf x.pi))
  | .error (E,pl)=>ph src fr E pl/\1<=E/\E<=3:=by
 unfold gI;by_cases h1:100+fr < src.size
 .rw [Ny h1];exact ⟨oe h1 (by omega),by omega,by omega⟩
 rw [Nr h1];have hb:=(Bi src (4 * (src.size - fr)+4)).2.2.2.2 fr 0 hf (by omega) (by omega) (by omega);unfold BrsR at hb
 cases hr:LZ src (4 * (src.size - fr)+4) fr 0 with
 | error pl=>
  rw [hr] at hb;exact ⟨oc hs hf (by omega) (Cy hb),by omega,by omega⟩
 | ok p=>
  obtain ⟨l,g,x⟩:=p;rw [hr] at hb;obtain ⟨b1,b2,b3,b4,b5,b6,b7,b8⟩:=hb;dsimp only;by_cases hl:l < src.size
  .rw [Ny hl];exact ⟨oc hs hf (by omega) (Cx b1 hl),by omega,by omega⟩
  .rw [Nr hl];have e:l=src.size:=by omega
   subst e;by_cases hz:300 < x.pi.sz
   .rw [Ny hz];exact ⟨CY hs hf (by omega) (uU b1) (by omega),by omega,by omega⟩
   .rw [Nr hz];have hlen:=b6 (by omega);have hok:=(Bw src _).2.2.2.2 _ _ _ _ _ (by omega) hr;have hd:x.pi.dd<=10:=by omega
    refine ⟨⟨hok.1,b5,by omega,by omega,?_⟩,by omega,CU (uU b1) (by omega) (by omega)⟩
    calc (1+x.pi.len) * (x.pi.dd+1)<=601 * 11:=Ol (by omega) (by omega)
     _<=9000:=by omega
end
structure Ptn where
 txt:ByteArray
 G:Nat
 x:Pn
inductive fS
 | num (n:Nat)
 | last
 | pat (p:Ptn)
structure Wr where
 src:ByteArray
 plain:List UInt8
abbrev noB:ByteArray:=⟨#[]⟩
abbrev noW:Wr:=⟨noB,[]⟩
structure du where
 fq:List fS
 range:Nat
 neg:Bool
 what:Nat
 label:ByteArray
 goal:Nat
 name:ByteArray
 file:Nat
 status:Nat
 text:Wr
 pat:Option Ptn
 new:Wr
 di:List (Nat×Nat)
 all:Bool
 number:Nat
 print:Bool
 rk:Wr
 yto:Wr
def dr (l:List fS) (r:Nat) (n:Bool) (x:Nat):du:=⟨l,r,n,x,noB,0,noB,0,0,noW,none,noW,[],false,0,false,noW,noW⟩
structure RdS where
 aE:List du
 names:List ByteArray
 ranges:Nat
 blocks:List Nat
 labels:List (ByteArray×Nat)
 wanted:List (Nat×Nat)
abbrev rf:=Nat×Nat
def numE (s:ByteArray) (lo hi f:Nat):Nat->Nat->Nat->Except Nat (Nat×Nat)
 | 0,v,k=>.ok (k,v)
 | n+1,v,k=>if isD s k then (if (v=0/\f < k)\/10 * v+dgt s k < lo\/hi < 10 * v+dgt s k then .error k else numE s lo hi f n (10 * v+dgt s k) (k+1)) else .ok (k,v)
def Js (s:ByteArray) (lo hi k:Nat):Except Nat (Nat×Nat):=numE s lo hi k (s.size+1) 0 k
def wdE (s:ByteArray) (f:Nat):Nat->Nat->Except Nat Nat
 | 0,k=>.error k
 | n+1,k=>if isW s k then (if k - f=8 then .error k else wdE s f n (k+1)) else if k=f then .error k else .ok k
def wordE (s:ByteArray) (k:Nat):Except Nat (Nat×ByteArray):=
 match wdE s (blk s k) (s.size+1) (blk s k) with
 | .error pl=>.error pl
 | .ok e=>.ok (e,s.extract (blk s k) e)
def ptE (s:ByteArray):Nat->Nat->Except Nat Nat
 | 0,k=>.error k
 | n+1,k=>if k < s.size/\saw s k 10=false then
   if saw s k 47 then .ok (k+1)
   else if saw s k 92 then (if k+1 < s.size/\saw s (k+1) 10=false then ptE s n (k+2) else .error (k+1)) else ptE s n (k+1)
  else .error k
def patE (s:ByteArray) (k:Nat):Except rf (Nat×Ptn):=
 if saw s k 47 then
  match ptE s (s.size+1) (k+1) with
  | .error pl=>.error (4,pl)
  | .ok e=>match gI (s.extract 0 (e - 1)) (k+1) with
   | .error q=>.error q
   | .ok (G,x)=>.ok (e,⟨s.extract (k+1) (e - 1),G,x⟩)
 else .error (4,k)
def adrE (s:ByteArray) (k:Nat):Except rf (Nat×fS):=
 if isD s k then
  match Js s 1 1000000 k with
  | .error pl=>.error (4,pl)
  | .ok (e,v)=>.ok (e,.num v)
 else if saw s k 36 then .ok (k+1,.last)
 else match patE s k with
  | .error q=>.error q
  | .ok (e,p)=>.ok (e,.pat p)
def adrsE (s:ByteArray) (k:Nat):Except rf (Nat×List fS):=
 if isA s k then
  match adrE s k with
  | .error q=>.error q
  | .ok (e,a)=>if saw s e 44 then
    (match adrE s (e+1) with
      | .error q=>.error q
      | .ok (e2,b)=>.ok (e2,[a,b]))
   else .ok (e,[a])
 else .ok (k,[])
def MW (u:UInt8):UInt8:=if u=110 then 10 else if u=116 then 9 else u
def lS (s esc:ByteArray) (k:Nat):Except Nat (Nat×UInt8):=
 if saw s k 92 then
  if h:k+1 < s.size then (if Lib.indexByte esc.data.toList (s[k+1]'h) < 0 then .error k else .ok (k+2,MW (s[k+1]'h))) else .error k
 else if h:k < s.size then .ok (k+1,s[k]'h) else .error k
def escT:ByteArray:=⟨#[110,116,92]⟩
def Eb:ByteArray:=⟨#[110,116,92,47]⟩
def escN:ByteArray:=⟨#[110,116,92,47,38]⟩
def textE (s:ByteArray):Nat->Nat->List UInt8->Except Nat (Nat×List UInt8)
 | 0,k,_=>.error k
 | n+1,k,acc=>if k < s.size/\saw s k 10=false then
   (match lS s escT k with
     | .error pl=>.error pl
     | .ok (l,c)=>textE s n l (acc++[c]))
  else .ok (k,acc)
def xy (s:ByteArray) (G k:Nat):Option (Nat×Nat):=
 if saw s k 38 then some (k+1,0)
 else if saw s k 92 then (if h:k+1 < s.size then (if 49<=(s[k+1]'h).toNat/\(s[k+1]'h).toNat<=48+G then some (k+2,(s[k+1]'h).toNat - 48) else none) else none)
 else none
def newE (s:ByteArray) (G:Nat):Nat->Nat->List UInt8->List (Nat×Nat)->Except Nat (Nat×List UInt8×List (Nat×Nat))
 | 0,k,_,_=>.error k
 | n+1,k,acc,hs=>if k < s.size/\saw s k 10=false then
   if saw s k 47 then .ok (k+1,acc,hs)
   else match xy s G k with
    | some (l,g)=>newE s G n l acc (hs++[(acc.length,g)])
    | none=>match lS s escN k with
     | .error pl=>.error pl
     | .ok (l,c)=>newE s G n l (acc++[c]) hs
  else .error k
def pL (s:ByteArray):Nat->Nat->List UInt8->Except Nat (Nat×List UInt8)
 | 0,k,_=>.error k
 | n+1,k,acc=>if k < s.size/\saw s k 10=false then
   if saw s k 47 then .ok (k+1,acc)
   else match lS s Eb k with
    | .error pl=>.error pl
    | .ok (l,c)=>if acc.contains c then .error k else pL s n l (acc++[c])
  else .error k
def toE (s:ByteArray) (m:Nat):Nat->Nat->List UInt8->Except Nat (Nat×List UInt8)
 | 0,k,_=>.error k
 | n+1,k,acc=>if k < s.size/\saw s k 10=false then
   if saw s k 47 then (if acc.length < m then .error k else .ok (k+1,acc))
   else if acc.length=m then .error k
   else match lS s Eb k with
    | .error pl=>.error pl
    | .ok (l,c)=>toE s m n l (acc++[c])
  else .error k
abbrev OpE:=Except rf (Nat×RdS×du)
def flt4 {α:Type}:Except Nat α->Except rf α
 | .error pl=>.error (4,pl)
 | .ok a=>.ok a
def fileE (s:ByteArray) (k:Nat) (r:RdS) (c:du):OpE:=
 match wordE s k with
 | .error pl=>.error (4,pl)
 | .ok (e,x)=>match r.names.findIdx? (x == ·) with
  | some i=>.ok (e,r,{ c with name:=x,file:=i })
  | none=>.ok (e,{ r with names:=r.names++[x] },{ c with name:=x,file:=r.names.length })
def flagsE (s:ByteArray):Nat->Nat->RdS->du->OpE
 | 0,k,_,_=>.error (4,k)
 | n+1,k,r,c=>
  if c.all=false/\saw s k 103=true then flagsE s n (k+1) r { c with all:=true }
  else if c.print=false/\saw s k 112=true then flagsE s n (k+1) r { c with print:=true }
  else if c.number=0/\isD s k=true then (match Js s 1 1000000 k with
   | .error pl=>.error (4,pl)
   | .ok (e,v)=>flagsE s n e r { c with number:=v })
  else if saw s k 119 then fileE s (k+1) r c
  else .ok (k,r,c)
def operE (s:ByteArray) (k:Nat) (r:RdS) (c:du):OpE:=
 if c.what=123 then (if r.blocks.length=8 then .error (6,k - 1) else .ok (k,{ r with blocks:=r.blocks++[r.aE.length] },c))
 else if c.what=125 then
  (match r.blocks.getLast? with
    | none=>.error (6,k - 1)
    | some i=>.ok (k,{ r with blocks:=r.blocks.dropLast,aE:=r.aE.modify i fun d=>{ d with goal:=r.aE.length } },c))
 else if c.what=58 then
  (match wordE s k with
    | .error pl=>.error (4,pl)
    | .ok (e,x)=>if r.labels.any (x == ·.1) then .error (5,e - x.size) else .ok (e,{ r with labels:=r.labels++[(x,r.aE.length)] },{ c with label:=x }))
 else if c.what=98\/c.what=116 then
  (if isW s (blk s k) then
    (match wordE s (blk s k) with
      | .error pl=>.error (4,pl)
      | .ok (e,x)=>.ok (e,{ r with wanted:=r.wanted++[(r.aE.length,e - x.size)] },{ c with label:=x }))
  else .ok (blk s k,{ r with wanted:=r.wanted++[(r.aE.length,blk s k)] },c))
 else if c.what=97\/c.what=105\/c.what=99 then
  (match textE s (s.size+1) (blk s k) [] with
    | .error pl=>.error (4,pl)
    | .ok (e,l)=>.ok (e,r,{ c with text:=⟨s.extract (blk s k) e,l⟩ }))
 else if c.what=115 then
  (match patE s k with
    | .error q=>.error q
    | .ok (e,p)=>match newE s p.G (s.size+1) e [] [] with
     | .error pl=>.error (4,pl)
     | .ok (e2,l,hs)=>flagsE s (s.size+1) e2 r { c with pat:=some p,new:=⟨s.extract e (e2 - 1),l⟩,di:=hs })
 else if c.what=121 then
  (if saw s k 47 then
    (match pL s (s.size+1) (k+1) [] with
      | .error pl=>.error (4,pl)
      | .ok (e,l)=>match toE s l.length (s.size+1) e [] with
       | .error pl=>.error (4,pl)
       | .ok (e2,l2)=>.ok (e2,r,{ c with rk:=⟨s.extract (k+1) (e - 1),l⟩,yto:=⟨s.extract e (e2 - 1),l2⟩ }))
  else .error (4,k))
 else if c.what=113 then
  (match Js s 0 255 (blk s k) with
    | .error pl=>.error (4,pl)
    | .ok (e,v)=>.ok (e,r,{ c with status:=v }))
 else if c.what=119 then fileE s k r c
 else .ok (k,r,c)
def jj:List Nat:=[123,125,58,98,116,97,105,99,115,121,113,119,100,68,103,71,104,72,120,110,78,112,80,108,61]
def cmdE (s:ByteArray) (k:Nat) (r:RdS):Except rf (Nat×RdS):=
 match adrsE s k with
 | .error q=>.error q
 | .ok (k1,L)=>
  let nt:=saw s (blk s k1) 33
  let k3:=if nt then blk s (blk s k1+1) else blk s k1
  let r1:=if L.length=2 then { r with ranges:=r.ranges+1 } else r
  if h:k3 < s.size then
   let x:=(s[k3]'h).toNat
   if jj.contains x=false then .error (4,k3)
   else if (x=125\/x=58)/\(nt=true\/L≠[]) then .error (4,k3)
   else match operE s (k3+1) r1 (dr L (if L.length=2 then r.ranges else 0) nt x) with
    | .error q=>.error q
    | .ok (e,r2,c)=>
     if x=123 then .ok (e,{ r2 with aE:=r2.aE++[c] })
     else if ia s (blk s e) then .ok (blk s e,{ r2 with aE:=r2.aE++[c] }) else .error (4,blk s e)
  else .error (4,k3)
def Ju (s:ByteArray):Nat->Nat->Nat
 | 0,k=>k
 | n+1,k=>if k < s.size/\saw s k 10=false then Ju s n (k+1) else k
def Ck (s:ByteArray):Nat->Nat->Nat
 | 0,k=>k
 | n+1,k=>if saw s k 35 then Ck s n (Ju s (s.size+1) k) else if saw s k 10 || saw s k 59 || isB s k then Ck s n (k+1) else k
def cmdsE (s:ByteArray):Nat->Nat->RdS->Except rf RdS
 | 0,k,_=>.error (4,k)
 | n+1,k,r=>
  if Ck s (s.size+1) k < s.size then
   match cmdE s (Ck s (s.size+1) k) r with
   | .error q=>.error q
   | .ok (e,r2)=>cmdsE s n e r2
  else .ok r
def goalsE:List (Nat×Nat)->RdS->Except rf RdS
 | [],r=>.ok r
 | (i,pl)::l,r=>match r.aE[i]? with
  | none=>.error (4,pl)
  | some c=>if c.label.size=0 then goalsE l { r with aE:=r.aE.set i { c with goal:=r.aE.length } }
   else match r.labels.find? (c.label == ·.1) with
    | none=>.error (5,pl)
    | some (_,n)=>goalsE l { r with aE:=r.aE.set i { c with goal:=n } }
structure fj where
 quiet:Bool
 aE:List du
 names:List ByteArray
 ranges:Nat
def rd0:RdS:=⟨[],[],0,[],[],[]⟩
def scrE (s:ByteArray):Except rf fj:=
 if 2000 < s.size then .error (1,0) else
 match cmdsE s (s.size+1) 0 rd0 with
 | .error q=>.error q
 | .ok r=>if r.blocks≠[] then .error (6,s.size) else
  match goalsE r.wanted r with
  | .error q=>.error q
  | .ok r2=>.ok ⟨qtB s,r2.aE,r2.names,r2.ranges⟩
def Ptn.cd (q:Ptn):Nat->In:=cdL (codeOf q.x.pi)
def Ptn.n (q:Ptn):Nat:=1+q.x.pi.len
def Ptn.D (q:Ptn):Nat:=q.x.pi.dd
def Ptn.bg (q:Ptn):Nat:=(q.x.pi.em 1 0 0).2
def Srch (q:Ptn) (t:ByteArray) (fr:Nat) (s s':Mc):Prop:=Runs q.cd q.n q.D t q.bg (t.size+1 - fr) fr [] { s with fd:=false } s'
open Classical in
noncomputable def ud (q:Ptn) (t:ByteArray) (fr:Nat) (s:Mc):Mc:=if h:∃ s',Srch q t fr s s' then h.choose else { s with fd:=false }
noncomputable def plcF (q:Ptn) (t:ByteArray):Nat->Nat->Mc->List (Nat->Int)
 | 0,_,_=>[]
 | k+1,fr,s=>if (ud q t fr s).fd then (ud q t fr s).dQ::plcF q t k ((ud q t fr s).dQ 1).toNat (ud q t fr s) else []
noncomputable def Ptn.C5 (q:Ptn) (t:List UInt8):List (Nat->Int):=plcF q (ba t) (((ba t).size+1) * (q.n * (q.D+1))+1) 0 mc0
noncomputable def Ptn.hit (q:Ptn) (t:List UInt8):Bool:=(ud q (ba t) 0 mc0).fd
inductive Wn
 | no
 | bw
 | gw
 | gm
deriving DecidableEq
abbrev gwV:Value:=.func (.func 123) #[] #[]
def Wn.v:Wn->Value
 | .no=>.nilFunc
 | .bw=>bwV
 | .gw=>gwV
 | .gm=>gmV
structure Ust where
 left:List UInt8
 ahead:Bool
 ended:Bool
 count:Nat
 number:Nat
 space:List UInt8
 held:List UInt8
 aH:Wn
 pc:Nat
 steps:Nat
 fN:Bool
 over:Bool
 err:Nat
 status:Nat
 out:List UInt8
 fb:List (List UInt8)
 rg:List Bool
 br:List (List UInt8)
def Ust.p (u:Ust):Pst:=⟨ba u.left,u.ahead,u.ended,u.count,u.number,ba u.space,ba u.held,u.aH.v,u.pc,u.steps,u.fN,u.over,u.err,u.status,u.out,u.fb,u.rg,u.br.map ba⟩
def fX (ah:Bool) (nf nr:Nat):Ust:=⟨[],ah,false,0,0,[],[],.bw,0,0,false,false,0,0,[],List.replicate nf [],List.replicate nr false,[]⟩
abbrev RU:=Except (Nat×Ust) Ust
namespace Ust
def tell (t:List UInt8) (u:Ust):RU:=
 if 200000 < u.count+t.length+1 then .error (10,{ u with count:=u.count+t.length+1 }) else .ok { u with count:=u.count+t.length+1,out:=u.out++t++[10] }
def write (i:Nat) (t:List UInt8) (u:Ust):RU:=
 if 200000 < u.count+t.length+1 then .error (10,{ u with count:=u.count+t.length+1 }) else .ok { u with count:=u.count+t.length+1,fb:=u.fb.modify i (fun x=>x++t++[10]) }
def tellL:List (List UInt8)->Ust->RU
 | [],u=>.ok u
 | t::l,u=>match u.tell t with
  | .error e=>.error e
  | .ok u1=>tellL l u1
def brought (u:Ust):RU:=match tellL u.br u with
 | .error e=>.error e
 | .ok u1=>.ok { u1 with br:=[] }
def eJ (q:Bool) (u:Ust):RU:=match (if q then .ok u else u.tell u.space:RU) with
 | .error e=>.error e
 | .ok u1=>u1.brought
def eE (q:Bool) (u:Ust):RU:=match u.eJ q with
 | .error e=>.error e
 | .ok u1=>.ok { u1 with aH:=.bw }
def aO (u:Ust):RU:=match u.brought with
 | .error e=>.error e
 | .ok u1=>.ok { u1 with aH:=.bw }
def gB (q:Bool) (st:Nat) (u:Ust):RU:=match u.eE q with
 | .error e=>.error e
 | .ok u1=>.ok { u1 with over:=true,status:=st }
def oZ (sp:List UInt8) (u:Ust):Ust:={ u with space:=sp,pc:=0,fN:=false }
def none_ (u:Ust):Bool:=u.ended && u.left.isEmpty
noncomputable def says (u:Ust):fS->Bool
 | .num n=>u.number == n
 | .last=>u.none_
 | .pat q=>q.hit u.space
noncomputable def ranged (i:Nat) (a b:fS) (u:Ust):Bool×Ust:=
 match b with
 | .num n=>(u.rg.getD i false || u.says a,{ u with rg:=u.rg.set i ((u.rg.getD i false || u.says a) && decide (u.number < n)) })
 | b=>if u.rg.getD i false then (true,{ u with rg:=u.rg.set i (!u.says b) }) else (u.says a,{ u with rg:=u.rg.set i (u.says a) })
noncomputable def addressed (c:du) (u:Ust):Bool×Ust:=
 match c.fq with
 | []=>(true,u)
 | [a]=>(u.says a,u)
 | a::b::_=>u.ranged c.range a b
end Ust
def cutL:List UInt8->List UInt8×Option (List UInt8)
 | []=>([],none)
 | c::l=>if c=10 then ([],some l) else (c::(cutL l).1,(cutL l).2)
def fillL (plain sp:List UInt8) (b:Nat->Int):Nat->List (Nat×Nat)->List UInt8
 | d,[]=>plain.drop d
 | d,(a,g)::hs=>(plain.take a).drop d++((if 0<=b (2 * g) then (sp.take (b (2 * g+1)).toNat).drop (b (2 * g)).toNat else [])++fillL plain sp b a hs)
structure Rst where
 cnt:Nat
 acc:List UInt8
 done:Nat
 ok:Bool
def replL (c:du) (sp:List UInt8):List (Nat->Int)->Rst->Rst
 | [],r=>r
 | b::bs,r=>if r.cnt+1 < c.number then replL c sp bs { r with cnt:=r.cnt+1 }
  else
   let r1:Rst:=⟨r.cnt+1,r.acc++(sp.take (b 0).toNat).drop r.done++fillL c.new.plain sp b 0 c.di,(b 1).toNat,true⟩
   if c.all=false\/4000 < r1.acc.length then r1 else replL c sp bs r1
noncomputable def gH (c:du) (sp:List UInt8):Option (List UInt8):=
 match c.pat with
 | none=>none
 | some q=>if (replL c sp (q.C5 sp) ⟨0,[],0,false⟩).ok then some ((replL c sp (q.C5 sp) ⟨0,[],0,false⟩).acc++sp.drop (replL c sp (q.C5 sp) ⟨0,[],0,false⟩).done) else none
def turnB (fr tz:List UInt8) (c:UInt8):UInt8:=match (fr.zip tz).reverse.find? (fun p=>p.1 == c) with
 | some p=>p.2
 | none=>c
def iX (b:UInt8):List UInt8:=
 if b=92 then [92,92] else if b=10 then [92,110] else if b=9 then [92,116] else if b < 32\/126 < b then [92,UInt8.ofNat (48+b.toNat / 64),UInt8.ofNat (48+b.toNat / 8 % 8),UInt8.ofNat (48+b.toNat % 8)] else [b]
def pJ (t:List UInt8):List UInt8:=t.flatMap iX++[36]
namespace Ust
def gM (a b:List UInt8) (f:List UInt8->Ust) (u:Ust):RU:=if 4000 < (a++10::b).length then .error (8,u) else .ok (f (a++10::b))
noncomputable def replace (c:du) (u:Ust):RU:=
 match gH c u.space with
 | none=>.ok u
 | some t=>if 4000 < t.length then .error (8,u) else
  match (if c.print then ({ u with space:=t,fN:=true }:Ust).tell t else .ok { u with space:=t,fN:=true }:RU) with
  | .error e=>.error e
  | .ok u1=>if c.name.size=0 then .ok u1 else u1.write c.file u1.space
noncomputable def fW (q:Bool) (c:du) (u:Ust):RU:=
 if c.what=123 then .ok u
 else if c.what=98 then .ok { u with pc:=c.goal }
 else if c.what=116 then .ok (if u.fN then { u with fN:=false,pc:=c.goal } else u)
 else if c.what=97 then .ok { u with br:=u.br++[c.text.plain] }
 else if c.what=105 then u.tell c.text.plain
 else if c.what=99 then (match (if c.fq.length=2/\c.neg=false/\u.rg.getD c.range false=true then .ok u else u.tell c.text.plain:RU) with
  | .error e=>.error e
  | .ok u1=>u1.aO)
 else if c.what=115 then u.replace c
 else if c.what=121 then .ok { u with space:=u.space.map (turnB c.rk.plain c.yto.plain) }
 else if c.what=100 then u.aO
 else if c.what=68 then (match (cutL u.space).2 with
  | none=>u.aO
  | some rest=>match u.brought with
   | .error e=>.error e
   | .ok u1=>.ok (u1.oZ rest))
 else if c.what=103 then .ok { u with space:=u.held }
 else if c.what=71 then gM u.space u.held (fun t=>{ u with space:=t }) u
 else if c.what=104 then .ok { u with held:=u.space }
 else if c.what=72 then gM u.held u.space (fun t=>{ u with held:=t }) u
 else if c.what=120 then .ok { u with space:=u.held,held:=u.space }
 else if c.what=110 then (if u.none_ then u.gB q 0 else match u.eJ q with
  | .error e=>.error e
  | .ok u1=>.ok { u1 with aH:=.gw })
 else if c.what=78 then (if u.none_ then u.gB q 0 else match u.brought with
  | .error e=>.error e
  | .ok u1=>.ok { u1 with aH:=.gm })
 else if c.what=112 then u.tell u.space
 else if c.what=80 then u.tell (cutL u.space).1
 else if c.what=108 then u.tell (pJ u.space)
 else if c.what=61 then u.tell (Lib.decDigits u.number)
 else if c.what=113 then u.gB q c.status
 else if c.what=119 then u.write c.file u.space
 else .ok u
noncomputable def look (S:fj) (u:Ust):RU:=
 match S.aE[u.pc]? with
 | none=>u.eE S.quiet
 | some c=>
  let u1:Ust:={ u with pc:=u.pc+1 }
  if c.what=125\/c.what=58 then .ok u1
  else
   let u2:Ust:={ u1 with steps:=u1.steps+1 }
   if 2000 < u2.steps then .error (7,u2)
   else
    let r:=u2.addressed c
    if r.1 != c.neg then r.2.fW S.quiet c else if c.what=123 then .ok { r.2 with pc:=c.goal } else .ok r.2
def there (u:Ust):Bool:=
 if u.ended then !u.left.isEmpty else if u.ahead then !((cutL u.left).2.getD []).isEmpty else (cutL u.left).2.isSome
def aI (u:Ust):Except (Nat×Ust) (Option Ust):=
 match u.aH with
 | .no=>.ok (some u)
 | wn=>if 1000 < (cutL u.left).1.length then .error (9,u)
  else if u.there then
   let u1:Ust:={ u with left:=(cutL u.left).2.getD [],number:=u.number+1,aH:=.no }
   match wn with
   | .gw=>.ok (some { u1 with space:=(cutL u.left).1 })
   | .gm=>(match gM u1.space (cutL u.left).1 (fun t=>{ u1 with space:=t }) u1 with
    | .error e=>.error e
    | .ok u2=>.ok (some u2))
   | _=>.ok (some ({ u1 with steps:=0 }.oZ (cutL u.left).1))
  else .ok none
noncomputable def runF (S:fj):Nat->Ust->Except (Nat×Ust) Ust
 | 0,u=>.ok u
 | n+1,u=>if u.over then .ok u else
  match u.aI with
  | .error e=>.error e
  | .ok none=>.ok u
  | .ok (some u1)=>match u1.look S with
   | .error e=>.error e
   | .ok u2=>runF S n u2
def fuel (S:fj) (u:Ust):Nat:=(u.left.length+1) * (2002 * (S.aE.length+2)+S.aE.length+3)
noncomputable def run (S:fj) (u:Ust):Ust:=
 match runF S (u.fuel S) u with
 | .error (e,u1)=>{ u1 with over:=true,err:=e }
 | .ok u1=>u1
structure Rep where
 out:List UInt8
 over:Bool
 err:Nat
 status:Nat
def jW (u:Ust):Rep×Ust:=(⟨u.out,u.over,u.err,u.status⟩,{ u with out:=[],left:=if u.over then [] else u.left })
noncomputable def feed (S:fj) (d:List UInt8) (u:Ust):Rep×Ust:=(if u.over then u else ({ u with left:=u.left++d }:Ust).run S).jW
noncomputable def end_ (S:fj) (u:Ust):Rep×Ust:=(if u.over then u else { ({ u with ended:=true }:Ust).run S with over:=true }).jW
end Ust
