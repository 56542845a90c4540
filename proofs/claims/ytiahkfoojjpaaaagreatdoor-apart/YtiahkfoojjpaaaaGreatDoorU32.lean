import Derived.Test.YtiahkfoojjpaaaaGreatDoorU28
import Derived.Test.YtiahkfoojjpaaaaGreatDoorU31
set_option maxRecDepth 100000
set_option maxHeartbeats 16000000
set_option linter.all false
namespace Go.Proofs.YtiahkfoojjpaaaaGreatDoor
open Go.RowKit
structure Ptn where
 txt:ByteArray
 G:Nat
 x:Pn
inductive AdrS
 | num (n:Nat)
 | last
 | pat (p:Ptn)
structure Wr where
 src:ByteArray
 plain:List UInt8
abbrev noB:ByteArray:=⟨#[]⟩
abbrev noW:Wr:=⟨noB,[]⟩
structure aV where
 dV:List AdrS
 range:Nat
 neg:Bool
 what:Nat
 label:ByteArray
 goal:Nat
 name:ByteArray
 file:Nat
 status:Nat
 text:Wr
 pat:Option Ptn
 new:Wr
 dm:List (Nat×Nat)
 all:Bool
 number:Nat
 print:Bool
 jd:Wr
 yto:Wr
def du (l:List AdrS) (r:Nat) (n:Bool) (x:Nat):aV:=⟨l,r,n,x,noB,0,noB,0,0,noW,none,noW,[],false,0,false,noW,noW⟩
structure RdS where
 aG:List aV
 names:List ByteArray
 ranges:Nat
 blocks:List Nat
 labels:List (ByteArray×Nat)
 wanted:List (Nat×Nat)
abbrev qX:=Nat×Nat
def numE (s:ByteArray) (lo hi f:Nat):Nat->Nat->Nat->Except Nat (Nat×Nat)
 | 0,v,k=>.ok (k,v)
 | n+1,v,k=>if isD s k then (if (v=0/\f < k)\/10 * v+dgt s k < lo\/hi < 10 * v+dgt s k then .error k else numE s lo hi f n (10 * v+dgt s k) (k+1)) else .ok (k,v)
def Jw (s:ByteArray) (lo hi k:Nat):Except Nat (Nat×Nat):=numE s lo hi k (s.size+1) 0 k
def wdE (s:ByteArray) (f:Nat):Nat->Nat->Except Nat Nat
 | 0,k=>.error k
 | n+1,k=>if isW s k then (if k - f=8 then .error k else wdE s f n (k+1)) else if k=f then .error k else .ok k
def wordE (s:ByteArray) (k:Nat):Except Nat (Nat×ByteArray):=
 match wdE s (blk s k) (s.size+1) (blk s k) with
 | .error pl=>.error pl
 | .ok e=>.ok (e,s.extract (blk s k) e)
def ptE (s:ByteArray):Nat->Nat->Except Nat Nat
 | 0,k=>.error k
 | n+1,k=>if k < s.size/\saw s k 10=false then
   if saw s k 47 then .ok (k+1)
   else if saw s k 92 then (if k+1 < s.size/\saw s (k+1) 10=false then ptE s n (k+2) else .error (k+1)) else ptE s n (k+1)
  else .error k
def patE (s:ByteArray) (k:Nat):Except qX (Nat×Ptn):=
 if saw s k 47 then
  match ptE s (s.size+1) (k+1) with
  | .error pl=>.error (4,pl)
  | .ok e=>match iD (s.extract 0 (e - 1)) (k+1) with
   | .error q=>.error q
   | .ok (G,x)=>.ok (e,⟨s.extract (k+1) (e - 1),G,x⟩)
 else .error (4,k)
def adrE (s:ByteArray) (k:Nat):Except qX (Nat×AdrS):=
 if isD s k then
  match Jw s 1 1000000 k with
  | .error pl=>.error (4,pl)
  | .ok (e,v)=>.ok (e,.num v)
 else if saw s k 36 then .ok (k+1,.last)
 else match patE s k with
  | .error q=>.error q
  | .ok (e,p)=>.ok (e,.pat p)
def adrsE (s:ByteArray) (k:Nat):Except qX (Nat×List AdrS):=
 if isA s k then
  match adrE s k with
  | .error q=>.error q
  | .ok (e,a)=>if saw s e 44 then
    (match adrE s (e+1) with
      | .error q=>.error q
      | .ok (e2,b)=>.ok (e2,[a,b]))
   else .ok (e,[a])
 else .ok (k,[])
def MW (u:UInt8):UInt8:=if u=110 then 10 else if u=116 then 9 else u
def lP (s esc:ByteArray) (k:Nat):Except Nat (Nat×UInt8):=
 if saw s k 92 then
  if h:k+1 < s.size then (if Lib.indexByte esc.data.toList (s[k+1]'h) < 0 then .error k else .ok (k+2,MW (s[k+1]'h))) else .error k
 else if h:k < s.size then .ok (k+1,s[k]'h) else .error k
def escT:ByteArray:=⟨#[110,116,92]⟩
def Ec:ByteArray:=⟨#[110,116,92,47]⟩
def escN:ByteArray:=⟨#[110,116,92,47,38]⟩
def textE (s:ByteArray):Nat->Nat->List UInt8->Except Nat (Nat×List UInt8)
 | 0,k,_=>.error k
 | n+1,k,acc=>if k < s.size/\saw s k 10=false then
   (match lP s escT k with
     | .error pl=>.error pl
     | .ok (l,c)=>textE s n l (acc++[c]))
  else .ok (k,acc)
def xo (s:ByteArray) (G k:Nat):Option (Nat×Nat):=
 if saw s k 38 then some (k+1,0)
 else if saw s k 92 then (if h:k+1 < s.size then (if 49<=(s[k+1]'h).toNat/\(s[k+1]'h).toNat<=48+G then some (k+2,(s[k+1]'h).toNat - 48) else none) else none)
 else none
def newE (s:ByteArray) (G:Nat):Nat->Nat->List UInt8->List (Nat×Nat)->Except Nat (Nat×List UInt8×List (Nat×Nat))
 | 0,k,_,_=>.error k
 | n+1,k,acc,hs=>if k < s.size/\saw s k 10=false then
   if saw s k 47 then .ok (k+1,acc,hs)
   else match xo s G k with
    | some (l,g)=>newE s G n l acc (hs++[(acc.length,g)])
    | none=>match lP s escN k with
     | .error pl=>.error pl
     | .ok (l,c)=>newE s G n l (acc++[c]) hs
  else .error k
def pE (s:ByteArray):Nat->Nat->List UInt8->Except Nat (Nat×List UInt8)
 | 0,k,_=>.error k
 | n+1,k,acc=>if k < s.size/\saw s k 10=false then
   if saw s k 47 then .ok (k+1,acc)
   else match lP s Ec k with
    | .error pl=>.error pl
    | .ok (l,c)=>if acc.contains c then .error k else pE s n l (acc++[c])
  else .error k
def toE (s:ByteArray) (m:Nat):Nat->Nat->List UInt8->Except Nat (Nat×List UInt8)
 | 0,k,_=>.error k
 | n+1,k,acc=>if k < s.size/\saw s k 10=false then
   if saw s k 47 then (if acc.length < m then .error k else .ok (k+1,acc))
   else if acc.length=m then .error k
   else match lP s Ec k with
    | .error pl=>.error pl
    | .ok (l,c)=>toE s m n l (acc++[c])
  else .error k
abbrev OpE:=Except qX (Nat×RdS×aV)
def flt4 {α:Type}:Except Nat α->Except qX α
 | .error pl=>.error (4,pl)
 | .ok a=>.ok a
def fileE (s:ByteArray) (k:Nat) (r:RdS) (c:aV):OpE:=
 match wordE s k with
 | .error pl=>.error (4,pl)
 | .ok (e,x)=>match r.names.findIdx? (x == ·) with
  | some i=>.ok (e,r,{ c with name:=x,file:=i })
  | none=>.ok (e,{ r with names:=r.names++[x] },{ c with name:=x,file:=r.names.length })
def flagsE (s:ByteArray):Nat->Nat->RdS->aV->OpE
 | 0,k,_,_=>.error (4,k)
 | n+1,k,r,c=>
  if c.all=false/\saw s k 103=true then flagsE s n (k+1) r { c with all:=true }
  else if c.print=false/\saw s k 112=true then flagsE s n (k+1) r { c with print:=true }
  else if c.number=0/\isD s k=true then (match Jw s 1 1000000 k with
   | .error pl=>.error (4,pl)
   | .ok (e,v)=>flagsE s n e r { c with number:=v })
  else if saw s k 119 then fileE s (k+1) r c
  else .ok (k,r,c)
def operE (s:ByteArray) (k:Nat) (r:RdS) (c:aV):OpE:=
 if c.what=123 then (if r.blocks.length=8 then .error (6,k - 1) else .ok (k,{ r with blocks:=r.blocks++[r.aG.length] },c))
 else if c.what=125 then
  (match r.blocks.getLast? with
    | none=>.error (6,k - 1)
    | some i=>.ok (k,{ r with blocks:=r.blocks.dropLast,aG:=r.aG.modify i fun d=>{ d with goal:=r.aG.length } },c))
 else if c.what=58 then
  (match wordE s k with
    | .error pl=>.error (4,pl)
    | .ok (e,x)=>if r.labels.any (x == ·.1) then .error (5,e - x.size) else .ok (e,{ r with labels:=r.labels++[(x,r.aG.length)] },{ c with label:=x }))
 else if c.what=98\/c.what=116 then
  (if isW s (blk s k) then
    (match wordE s (blk s k) with
      | .error pl=>.error (4,pl)
      | .ok (e,x)=>.ok (e,{ r with wanted:=r.wanted++[(r.aG.length,e - x.size)] },{ c with label:=x }))
  else .ok (blk s k,{ r with wanted:=r.wanted++[(r.aG.length,blk s k)] },c))
 else if c.what=97\/c.what=105\/c.what=99 then
  (match textE s (s.size+1) (blk s k) [] with
    | .error pl=>.error (4,pl)
    | .ok (e,l)=>.ok (e,r,{ c with text:=⟨s.extract (blk s k) e,l⟩ }))
 else if c.what=115 then
  (match patE s k with
    | .error q=>.error q
    | .ok (e,p)=>match newE s p.G (s.size+1) e [] [] with
     | .error pl=>.error (4,pl)
     | .ok (e2,l,hs)=>flagsE s (s.size+1) e2 r { c with pat:=some p,new:=⟨s.extract e (e2 - 1),l⟩,dm:=hs })
 else if c.what=121 then
  (if saw s k 47 then
    (match pE s (s.size+1) (k+1) [] with
      | .error pl=>.error (4,pl)
      | .ok (e,l)=>match toE s l.length (s.size+1) e [] with
       | .error pl=>.error (4,pl)
       | .ok (e2,l2)=>.ok (e2,r,{ c with jd:=⟨s.extract (k+1) (e - 1),l⟩,yto:=⟨s.extract e (e2 - 1),l2⟩ }))
  else .error (4,k))
 else if c.what=113 then
  (match Jw s 0 255 (blk s k) with
    | .error pl=>.error (4,pl)
    | .ok (e,v)=>.ok (e,r,{ c with status:=v }))
 else if c.what=119 then fileE s k r c
 else .ok (k,r,c)
def jg:List Nat:=[123,125,58,98,116,97,105,99,115,121,113,119,100,68,103,71,104,72,120,110,78,112,80,108,61]
def cmdE (s:ByteArray) (k:Nat) (r:RdS):Except qX (Nat×RdS):=
 match adrsE s k with
 | .error q=>.error q
 | .ok (k1,L)=>
  let nt:=saw s (blk s k1) 33
  let k3:=if nt then blk s (blk s k1+1) else blk s k1
  let r1:=if L.length=2 then { r with ranges:=r.ranges+1 } else r
  if h:k3 < s.size then
   let x:=(s[k3]'h).toNat
   if jg.contains x=false then .error (4,k3)
   else if (x=125\/x=58)/\(nt=true\/L≠[]) then .error (4,k3)
   else match operE s (k3+1) r1 (du L (if L.length=2 then r.ranges else 0) nt x) with
    | .error q=>.error q
    | .ok (e,r2,c)=>
     if x=123 then .ok (e,{ r2 with aG:=r2.aG++[c] })
     else if gQ s (blk s e) then .ok (blk s e,{ r2 with aG:=r2.aG++[c] }) else .error (4,blk s e)
  else .error (4,k3)
def Jy (s:ByteArray):Nat->Nat->Nat
 | 0,k=>k
 | n+1,k=>if k < s.size/\saw s k 10=false then Jy s n (k+1) else k
def Ci (s:ByteArray):Nat->Nat->Nat
 | 0,k=>k
 | n+1,k=>if saw s k 35 then Ci s n (Jy s (s.size+1) k) else if saw s k 10 || saw s k 59 || isB s k then Ci s n (k+1) else k
def cmdsE (s:ByteArray):Nat->Nat->RdS->Except qX RdS
 | 0,k,_=>.error (4,k)
 | n+1,k,r=>
  if Ci s (s.size+1) k < s.size then
   match cmdE s (Ci s (s.size+1) k) r with
   | .error q=>.error q
   | .ok (e,r2)=>cmdsE s n e r2
  else .ok r
def goalsE:List (Nat×Nat)->RdS->Except qX RdS
 | [],r=>.ok r
 | (i,pl)::l,r=>match r.aG[i]? with
  | none=>.error (4,pl)
  | some c=>if c.label.size=0 then goalsE l { r with aG:=r.aG.set i { c with goal:=r.aG.length } }
   else match r.labels.find? (c.label == ·.1) with
    | none=>.error (5,pl)
    | some (_,n)=>goalsE l { r with aG:=r.aG.set i { c with goal:=n } }
structure eF where
 quiet:Bool
 aG:List aV
 names:List ByteArray
 ranges:Nat
def rd0:RdS:=⟨[],[],0,[],[],[]⟩
def scrE (s:ByteArray):Except qX eF:=
 if 2000 < s.size then .error (1,0) else
 match cmdsE s (s.size+1) 0 rd0 with
 | .error q=>.error q
 | .ok r=>if r.blocks≠[] then .error (6,s.size) else
  match goalsE r.wanted r with
  | .error q=>.error q
  | .ok r2=>.ok ⟨qtB s,r2.aG,r2.names,r2.ranges⟩
def Ptn.cd (q:Ptn):Nat->In:=cdL (codeOf q.x.pi)
def Ptn.n (q:Ptn):Nat:=1+q.x.pi.len
def Ptn.D (q:Ptn):Nat:=q.x.pi.dd
def Ptn.bg (q:Ptn):Nat:=(q.x.pi.em 1 0 0).2
def Srch (q:Ptn) (t:ByteArray) (fr:Nat) (s s':Mc):Prop:=Runs q.cd q.n q.D t q.bg (t.size+1 - fr) fr [] { s with fd:=false } s'
open Classical in
noncomputable def Eb (q:Ptn) (t:ByteArray) (fr:Nat) (s:Mc):Mc:=if h:∃ s',Srch q t fr s s' then h.choose else { s with fd:=false }
noncomputable def plcF (q:Ptn) (t:ByteArray):Nat->Nat->Mc->List (Nat->Int)
 | 0,_,_=>[]
 | k+1,fr,s=>if (Eb q t fr s).fd then (Eb q t fr s).eX::plcF q t k ((Eb q t fr s).eX 1).toNat (Eb q t fr s) else []
noncomputable def Ptn.J9 (q:Ptn) (t:List UInt8):List (Nat->Int):=plcF q (ba t) (((ba t).size+1) * (q.n * (q.D+1))+1) 0 mc0
noncomputable def Ptn.hit (q:Ptn) (t:List UInt8):Bool:=(Eb q (ba t) 0 mc0).fd
inductive Wn
 | no
 | bw
 | gw
 | gm
deriving DecidableEq
abbrev gwV:Value:=.func (.func 123) #[] #[]
def Wn.v:Wn->Value
 | .no=>.nilFunc
 | .bw=>bwV
 | .gw=>gwV
 | .gm=>gmV
structure Ust where
 left:List UInt8
 ahead:Bool
 ended:Bool
 count:Nat
 number:Nat
 space:List UInt8
 held:List UInt8
 aU:Wn
 pc:Nat
 steps:Nat
 gL:Bool
 over:Bool
 err:Nat
 status:Nat
 out:List UInt8
 fb:List (List UInt8)
 rg:List Bool
 br:List (List UInt8)
def Ust.p (u:Ust):Pst:=⟨ba u.left,u.ahead,u.ended,u.count,u.number,ba u.space,ba u.held,u.aU.v,u.pc,u.steps,u.gL,u.over,u.err,u.status,u.out,u.fb,u.rg,u.br.map ba⟩
def ust0 (ah:Bool) (nf nr:Nat):Ust:=⟨[],ah,false,0,0,[],[],.bw,0,0,false,false,0,0,[],List.replicate nf [],List.replicate nr false,[]⟩
abbrev RU:=Except (Nat×Ust) Ust
namespace Ust
def tell (t:List UInt8) (u:Ust):RU:=
 if 200000 < u.count+t.length+1 then .error (10,{ u with count:=u.count+t.length+1 }) else .ok { u with count:=u.count+t.length+1,out:=u.out++t++[10] }
def write (i:Nat) (t:List UInt8) (u:Ust):RU:=
 if 200000 < u.count+t.length+1 then .error (10,{ u with count:=u.count+t.length+1 }) else .ok { u with count:=u.count+t.length+1,fb:=u.fb.modify i (fun x=>x++t++[10]) }
def tellL:List (List UInt8)->Ust->RU
 | [],u=>.ok u
 | t::l,u=>match u.tell t with
  | .error e=>.error e
  | .ok u1=>tellL l u1
def brought (u:Ust):RU:=match tellL u.br u with
 | .error e=>.error e
 | .ok u1=>.ok { u1 with br:=[] }
def dN (q:Bool) (u:Ust):RU:=match (if q then .ok u else u.tell u.space:RU) with
 | .error e=>.error e
 | .ok u1=>u1.brought
def dG (q:Bool) (u:Ust):RU:=match u.dN q with
 | .error e=>.error e
 | .ok u1=>.ok { u1 with aU:=.bw }
def aH (u:Ust):RU:=match u.brought with
 | .error e=>.error e
 | .ok u1=>.ok { u1 with aU:=.bw }
def fO (q:Bool) (st:Nat) (u:Ust):RU:=match u.dG q with
 | .error e=>.error e
 | .ok u1=>.ok { u1 with over:=true,status:=st }
def qO (sp:List UInt8) (u:Ust):Ust:={ u with space:=sp,pc:=0,gL:=false }
def none_ (u:Ust):Bool:=u.ended && u.left.isEmpty
noncomputable def says (u:Ust):AdrS->Bool
 | .num n=>u.number == n
 | .last=>u.none_
 | .pat q=>q.hit u.space
noncomputable def ranged (i:Nat) (a b:AdrS) (u:Ust):Bool×Ust:=
 match b with
 | .num n=>(u.rg.getD i false || u.says a,{ u with rg:=u.rg.set i ((u.rg.getD i false || u.says a) && decide (u.number < n)) })
 | b=>if u.rg.getD i false then (true,{ u with rg:=u.rg.set i (!u.says b) }) else (u.says a,{ u with rg:=u.rg.set i (u.says a) })
noncomputable def addressed (c:aV) (u:Ust):Bool×Ust:=
 match c.dV with
 | []=>(true,u)
 | [a]=>(u.says a,u)
 | a::b::_=>u.ranged c.range a b
end Ust
def cutL:List UInt8->List UInt8×Option (List UInt8)
 | []=>([],none)
 | c::l=>if c=10 then ([],some l) else (c::(cutL l).1,(cutL l).2)
def fillL (plain sp:List UInt8) (b:Nat->Int):Nat->List (Nat×Nat)->List UInt8
 | d,[]=>plain.drop d
 | d,(a,g)::hs=>(plain.take a).drop d++((if 0<=b (2 * g) then (sp.take (b (2 * g+1)).toNat).drop (b (2 * g)).toNat else [])++fillL plain sp b a hs)
structure Rst where
 cnt:Nat
 acc:List UInt8
 done:Nat
 ok:Bool
def replL (c:aV) (sp:List UInt8):List (Nat->Int)->Rst->Rst
 | [],r=>r
 | b::bs,r=>if r.cnt+1 < c.number then replL c sp bs { r with cnt:=r.cnt+1 }
  else
   let r1:Rst:=⟨r.cnt+1,r.acc++(sp.take (b 0).toNat).drop r.done++fillL c.new.plain sp b 0 c.dm,(b 1).toNat,true⟩
   if c.all=false\/4000 < r1.acc.length then r1 else replL c sp bs r1
noncomputable def yG (c:aV) (sp:List UInt8):Option (List UInt8):=
 match c.pat with
 | none=>none
 | some q=>if (replL c sp (q.J9 sp) ⟨0,[],0,false⟩).ok then some ((replL c sp (q.J9 sp) ⟨0,[],0,false⟩).acc++sp.drop (replL c sp (q.J9 sp) ⟨0,[],0,false⟩).done) else none
def turnB (fr tz:List UInt8) (c:UInt8):UInt8:=match (fr.zip tz).reverse.find? (fun p=>p.1 == c) with
 | some p=>p.2
 | none=>c
def iP (b:UInt8):List UInt8:=
 if b=92 then [92,92] else if b=10 then [92,110] else if b=9 then [92,116] else if b < 32\/126 < b then [92,UInt8.ofNat (48+b.toNat / 64),UInt8.ofNat (48+b.toNat / 8 % 8),UInt8.ofNat (48+b.toNat % 8)] else [b]
def pq (t:List UInt8):List UInt8:=t.flatMap iP++[36]
namespace Ust
def gS (a b:List UInt8) (f:List UInt8->Ust) (u:Ust):RU:=if 4000 < (a++10::b).length then .error (8,u) else .ok (f (a++10::b))
noncomputable def replace (c:aV) (u:Ust):RU:=
 match yG c u.space with
 | none=>.ok u
 | some t=>if 4000 < t.length then .error (8,u) else
  match (if c.print then ({ u with space:=t,gL:=true }:Ust).tell t else .ok { u with space:=t,gL:=true }:RU) with
  | .error e=>.error e
  | .ok u1=>if c.name.size=0 then .ok u1 else u1.write c.file u1.space
noncomputable def iX (q:Bool) (c:aV) (u:Ust):RU:=
 if c.what=123 then .ok u
 else if c.what=98 then .ok { u with pc:=c.goal }
 else if c.what=116 then .ok (if u.gL then { u with gL:=false,pc:=c.goal } else u)
 else if c.what=97 then .ok { u with br:=u.br++[c.text.plain] }
 else if c.what=105 then u.tell c.text.plain
 else if c.what=99 then (match (if c.dV.length=2/\c.neg=false/\u.rg.getD c.range false=true then .ok u else u.tell c.text.plain:RU) with
  | .error e=>.error e
  | .ok u1=>u1.aH)
 else if c.what=115 then u.replace c
 else if c.what=121 then .ok { u with space:=u.space.map (turnB c.jd.plain c.yto.plain) }
 else if c.what=100 then u.aH
 else if c.what=68 then (match (cutL u.space).2 with
  | none=>u.aH
  | some rest=>match u.brought with
   | .error e=>.error e
   | .ok u1=>.ok (u1.qO rest))
 else if c.what=103 then .ok { u with space:=u.held }
 else if c.what=71 then gS u.space u.held (fun t=>{ u with space:=t }) u
 else if c.what=104 then .ok { u with held:=u.space }
 else if c.what=72 then gS u.held u.space (fun t=>{ u with held:=t }) u
 else if c.what=120 then .ok { u with space:=u.held,held:=u.space }
 else if c.what=110 then (if u.none_ then u.fO q 0 else match u.dN q with
  | .error e=>.error e
  | .ok u1=>.ok { u1 with aU:=.gw })
 else if c.what=78 then (if u.none_ then u.fO q 0 else match u.brought with
  | .error e=>.error e
  | .ok u1=>.ok { u1 with aU:=.gm })
 else if c.what=112 then u.tell u.space
 else if c.what=80 then u.tell (cutL u.space).1
 else if c.what=108 then u.tell (pq u.space)
 else if c.what=61 then u.tell (Lib.decDigits u.number)
 else if c.what=113 then u.fO q c.status
 else if c.what=119 then u.write c.file u.space
 else .ok u
noncomputable def look (S:eF) (u:Ust):RU:=
 match S.aG[u.pc]? with
 | none=>u.dG S.quiet
 | some c=>
  let u1:Ust:={ u with pc:=u.pc+1 }
  if c.what=125\/c.what=58 then .ok u1
  else
   let u2:Ust:={ u1 with steps:=u1.steps+1 }
   if 2000 < u2.steps then .error (7,u2)
   else
    let r:=u2.addressed c
    if r.1 != c.neg then r.2.iX S.quiet c else if c.what=123 then .ok { r.2 with pc:=c.goal } else .ok r.2
def there (u:Ust):Bool:=
 if u.ended then !u.left.isEmpty else if u.ahead then !((cutL u.left).2.getD []).isEmpty else (cutL u.left).2.isSome
def dj (u:Ust):Except (Nat×Ust) (Option Ust):=
 match u.aU with
 | .no=>.ok (some u)
 | wn=>if 1000 < (cutL u.left).1.length then .error (9,u)
  else if u.there then
   let u1:Ust:={ u with left:=(cutL u.left).2.getD [],number:=u.number+1,aU:=.no }
   match wn with
   | .gw=>.ok (some { u1 with space:=(cutL u.left).1 })
   | .gm=>(match gS u1.space (cutL u.left).1 (fun t=>{ u1 with space:=t }) u1 with
    | .error e=>.error e
    | .ok u2=>.ok (some u2))
   | _=>.ok (some ({ u1 with steps:=0 }.qO (cutL u.left).1))
  else .ok none
noncomputable def runF (S:eF):Nat->Ust->Except (Nat×Ust) Ust
 | 0,u=>.ok u
 | n+1,u=>if u.over then .ok u else
  match u.dj with
  | .error e=>.error e
  | .ok none=>.ok u
  | .ok (some u1)=>match u1.look S with
   | .error e=>.error e
   | .ok u2=>runF S n u2
def fuel (S:eF) (u:Ust):Nat:=(u.left.length+1) * (2002 * (S.aG.length+2)+S.aG.length+3)
noncomputable def run (S:eF) (u:Ust):Ust:=
 match runF S (u.fuel S) u with
 | .error (e,u1)=>{ u1 with over:=true,err:=e }
 | .ok u1=>u1
structure Rep where
 out:List UInt8
 over:Bool
 err:Nat
 status:Nat
def rK (u:Ust):Rep×Ust:=(⟨u.out,u.over,u.err,u.status⟩,{ u with out:=[],left:=if u.over then [] else u.left })
noncomputable def feed (S:eF) (d:List UInt8) (u:Ust):Rep×Ust:=(if u.over then u else ({ u with left:=u.left++d }:Ust).run S).rK
noncomputable def end_ (S:eF) (u:Ust):Rep×Ust:=(if u.over then u else { ({ u with ended:=true }:Ust).run S with over:=true }).rK
end Ust
structure UOk (u:Ust):Prop where
 sp:u.space.length<=4000
 hd:u.held.length<=4000
 ct:u.count<=200000
 ot:u.out.length<=u.count
 fb:∀ t∈u.fb,t.length<=u.count
 bt:∀ t∈u.br,t.length<=2000
 bl:u.br.length<=2001
 lf:u.left.length+u.number<=281474976710656
def dC (w0:World) (mb sb db:Nat) (w:World) (s:Mst) (R:RU) (e:Ending) (w':World):Prop:=
 match R with
 | .ok u=>e=.returned (.tuple #[])/\de w0 mb sb db w s w' u.p
 | .error (E,u)=>e=gE E 0/\de w0 mb sb db w s w' u.p
theorem lY (E:Nat) (w:World):Calls Tryz.prog 128 #[.int .i64 E] w fun e w'=>e=gE E 0/\w'=w:=by
 go_enter Tryz.func128,Tryz.ntmps128
 go_wp2_with fail;exact ⟨rfl,rfl,rfl⟩
section
variable {w0 w w' w2:World} {mb sb db:Nat} {s s':Mst} {u:Ust}
theorem add_f {c:Nat} {v:Value} {text:ByteArray} (c7:w.cell? ⟨mb,7,none⟩=some (.int .i64 c)) (f7:w.frozen? ⟨mb,7,none⟩=false) (hc:200000 < c+text.size+1) (hb:c+text.size+1<=1000000) :
  Calls Tryz.prog 155 #[.pointer (some ⟨mb,5,none⟩),v,.string text] w fun r w'=>r=gE 10 0/\w'=w.setCell ⟨mb,7,none⟩ (.int .i64 ((c+text.size+1:Nat):Int)):=by
 obtain ⟨t1,ht1⟩:∃ t1:Nat,(text.size:Int)+1=(t1:Int):=⟨text.size+1,by omega⟩;obtain ⟨t2,ht2⟩:∃ t2:Nat,(c:Int)+(t1:Int)=(t2:Int):=⟨c+t1,by omega⟩;have q1:=aa t1 (by omega);have q2:=aa t2 (by omega);have g1:200000 < t2:=by omega
 have e2:c+text.size+1=t2:=by omega
 rw [e2];clear hc hb e2;go_enter Tryz.func155,Tryz.ntmps155
 go_wp2_with fail;refine (lY 10 _).mono ?_;rintro r w1 ⟨rfl,rfl⟩;go_wp2_with fail;exact ⟨rfl,rfl,rfl⟩
theorem Mu {text:ByteArray} (h:Mac w0 w mb sb db s) (hc:s.count+text.size+1<=200000) (hx:s.r.out.length<=s.count) :
  Calls Tryz.prog 112 #[.pointer (some ⟨mb,5,none⟩),.string text] w fun r w'=>r=.returned (.tuple #[])/\∃ v',Mac w0 w' mb sb db { s with count:=s.count+text.size+1,r:={ s.r with vo:=v',out:=s.r.out++text.data.toList++[10] } }/\Gr mb db w s.r w' { s.r with vo:=v',out:=s.r.out++text.data.toList++[10] }:=by
 have c5:=h.b.at_ 5 _ rfl;have H:=hid (add_v (text:=text) (h.b.at_ 7 _ rfl) (h.b.free 7) h.r.o2 (fun e=>h.Hd 2 (by omega) e) h.r.kp.size hc hx);go_enter Tryz.func112,Tryz.ntmps112
 go_wp2_with fail;refine H.out.mono ?_;rintro r w1 ⟨v',rfl,A⟩;have d5:=(A.cell 5 (by omega)).trans c5;have f5:=(A.free 5).trans (h.b.free 5);obtain ⟨m1,g1⟩:=h.told A;obtain ⟨A',c',ev,_,_⟩:=aP A.row;clear A;subst ev;go_wp2_with fail;go_end0;exact ⟨rfl,_,m1,g1⟩
theorem Mw {text:ByteArray} (h:Mac w0 w mb sb db s) (hc:200000 < s.count+text.size+1) (hb:s.count+text.size+1<=1000000) :
  Calls Tryz.prog 112 #[.pointer (some ⟨mb,5,none⟩),.string text] w fun r w'=>r=gE 10 0/\Mac w0 w' mb sb db { s with count:=s.count+text.size+1 }/\Gr mb db w s.r w' s.r:=by
 have c5:=h.b.at_ 5 _ rfl;have H:=hid (add_f (v:=s.r.vo) (text:=text) (h.b.at_ 7 _ rfl) (h.b.free 7) hc hb);have M:=hid (h.set (s':={ s with count:=s.count+text.size+1 }) 7 (.int .i64 ((s.count+text.size+1:Nat):Int)) (by omega) rfl rfl);clear h hc hb;go_enter Tryz.func112,Tryz.ntmps112
 go_wp2_with fail;refine H.out.mono ?_;rintro r w1 ⟨rfl,rfl⟩;go_wp2_with fail;exact ⟨rfl,rfl,M.out,Gr.set _ _ _ _⟩
theorem iG {t:List UInt8} (h:Mac w0 w mb sb db s) (hp:s.p=u.p) (hu:UOk u) (ht:t.length<=20000) :
  Calls Tryz.prog 112 #[.pointer (some ⟨mb,5,none⟩),.string (ba t)] w (dC w0 mb sb db w s (u.tell t)):=by
 have hc:s.count=u.count:=congrArg Pst.count hp;have ho:s.r.out=u.out:=congrArg Pst.out hp;have h1:=hu.ct;have h2:=hu.ot;unfold Ust.tell;by_cases hb:200000 < u.count+t.length+1
 .rw [Ny hb];refine (Mw h (by rw [hc,ay];exact hb) (by rw [hc,ay];omega)).mono ?_;rintro r w1 ⟨rfl,m1,g1⟩;refine ⟨rfl,_,?_,m1,g1⟩;show ({ s.p with count:=s.count+(ba t).size+1 }:Pst)=_;rw [hp,hc,ay]
  rfl
 .rw [Nr hb];refine (Mu h (by rw [hc,ay];omega) (by rw [ho,hc];exact h2)).mono ?_;rintro r w1 ⟨rfl,v',m1,g1⟩;refine ⟨rfl,_,?_,m1,g1⟩;show ({ s.p with count:=s.count+(ba t).size+1,out:=s.r.out++(ba t).data.toList++[10] }:Pst)=_;rw [hp,hc,ay,dQ,ho]
  rfl
end
def um (s:Mst) (u1:Ust) (vo:Value):Mst:={ s with count:=u1.count,r:={ s.r with vo:=vo,out:=u1.out } }
theorem UOk.tell {u u':Ust} {t:List UInt8} (h:UOk u) (e:u.tell t=.ok u'):UOk u'/\u'={ u with count:=u'.count,out:=u'.out }:=by
 unfold Ust.tell at e;split at e
 .cases e
 .rename_i hc;injection e with e;subst e;have h1:=h.ot;refine ⟨⟨h.sp,h.hd,by show u.count+t.length+1<=_;omega,by show (u.out++t++[10]).length<=u.count+t.length+1;simp;omega,fun x hx=>by have:=h.fb x hx;show _<=u.count+t.length+1;omega,h.bt,h.bl,h.lf⟩,rfl⟩
theorem JK {u u':Ust} {t:List UInt8} {E:Nat} (e:u.tell t=.error (E,u')):E=10/\u'={ u with count:=u.count+t.length+1 }:=by
 unfold Ust.tell at e;split at e
 .injection e with e;injection e with e1 e2;exact ⟨e1.symm,e2.symm⟩
 .cases e
def noBrR:RU->RU
 | .error e=>.error e
 | .ok u1=>.ok { u1 with br:=[] }
theorem lz (u:Ust):u.brought=noBrR (Ust.tellL u.br u):=by
 unfold Ust.brought
 cases Ust.tellL u.br u <;> rfl
section
variable {w0 w w' w2:World} {mb sb db:Nat} {s s':Mst} {u:Ust}
theorem de.lQ {p p':Pst} (g:de w0 mb sb db w s w' p) (e:p=p'):de w0 mb sb db w s w' p':=e ▸ g
theorem eh (h:Mac w0 w mb sb db s) (hp:s.p=u.p) (hu:UOk u) :
  Calls Tryz.prog 118 #[.pointer (some ⟨mb,0,none⟩)] w (dC w0 mb sb db w s u.brought):=by
 have hbr:s.r.br=u.br.map ba:=congrArg Pst.br hp;have hc:s.count=u.count:=congrArg Pst.count hp;have ho:s.r.out=u.out:=congrArg Pst.out hp;have hbl:=hu.bl;obtain ⟨A,c,e,_,_⟩:=aP h.r.o5;have c16:=h.b.at_ 16 _ rfl;rw [e,hbr,N9] at c16;obtain ⟨R,hR⟩:∃ R,R=Ust.tellL u.br u:=⟨_,rfl⟩;have HBT:Hid (u.brought=noBrR R):=hid (by rw [hR];exact lz u);have e0:um s u s.r.vo=s:=by unfold um;rw [<-hc,<-ho]
 have HS:Hid (Mac w0 w mb sb db (um s u s.r.vo)/\Gr mb db w s.r w (um s u s.r.vo).r):=hid (by rw [e0];exact ⟨h,Gr.refl _ _ _ _⟩);have HU:Hid (u={ u with count:=u.count,out:=u.out }/\UOk u):=hid ⟨rfl,hu⟩;have HR:Hid (R=Ust.tellL (u.br.drop 0) u):=hid hR;have HP:=hid hp;have HE:=hid (And.intro e hbr);obtain ⟨n,hn⟩:∃ n,n=u.br.length:=⟨_,rfl⟩;rw [<-hn] at c16 hbl;have HNN:=hid hn;clear hR e0 hp e hbr hc ho h hu hn;go_enter Tryz.func118,Tryz.ntmps118
 go_wp2_with fail;go_loopw [9] (fun v wr=>∃ (j:Nat) (u1:Ust) (vo:Value),j<=n/\v=.int .i64 j/\Hid (Mac w0 wr mb sb db (um s u1 vo)/\Gr mb db w s.r wr (um s u1 vo).r)/\Hid (u1={ u with count:=u1.count,out:=u1.out }/\UOk u1)/\Hid (R=Ust.tellL (u.br.drop j) u1)) (fun v _=>3000 - (intOf v).toNat)
 case atStart=>exact ⟨0,u,s.r.vo,NH _,rfl,HS,hid ⟨rfl,HU.out.2⟩,HR⟩
 case round=>
  clear HS HU HR c16;obtain ⟨j,u1,vo,hj,rfl,HS,HU,HR⟩:=hrel;by_cases hjl:j < n
  case neg=>
   have hjn:j=n:=by omega
   subst hjn;have c16:=HS.out.1.b.at_ 16 _ rfl;have f16:=HS.out.1.b.free 16;have G:=hid HS.out.1.noBr;go_wp2_with fail;go_end0;have hR:=HR.out;rw [HNN.out,Pd] at hR;rw [HBT.out,hR];obtain ⟨s9,e9,m9,g9⟩:=G.out;refine ⟨rfl,s9,e9.trans ?_,m9,HS.out.2.trans g9⟩;show ({ (um s u1 vo).p with br:=[] }:Pst)=_;have e1:(um s u1 vo).p={ s.p with count:=u1.count,out:=u1.out }:=rfl;rw [e1,HP.out,HU.out.1]
   rfl
  case pos=>
  have hjl':j < u.br.length:=by rw [<-HNN.out];exact hjl
  obtain ⟨t,ht⟩:∃ t,u.br[j]? = some t:=⟨_,Nv hjl'⟩;have hd:u.br.drop j=t::u.br.drop (j+1):=by
   rw [NY hjl']
   congr 1
   have:=Nv hjl';rw [ht] at this;injection this with this;exact this.symm
  have htl:t.length<=20000:=by
   have:=HU.out.2.bt t (by rw [HU.out.1];exact NM ht);omega
  have hR:=HR.out;rw [hd] at hR;unfold Ust.tellL at hR;obtain ⟨g,cap,ev⟩:=fq (w:=wr) HS.out.1.r.o5 (by show 0 < s.r.br.length;rw [HE.out.2,N9];omega);have o5:=HS.out.1.r.o5;rw [ev] at o5;have p0:wr.cell? ⟨g,j,none⟩=some (.string (ba t)):=by
   rw [o5.cellAt j (by show j < s.r.br.length * 1;rw [HE.out.2,N9];omega)];show (s.r.br.map Value.string)[j]? = _;rw [HE.out.2,N6,N6,ht]
   rfl
  have hA:A=some ⟨g,0,none⟩:=by
   have q:s.r.vb=.slice (some ⟨g,0,none⟩) s.r.br.length cap:=ev;rw [HE.out.1] at q;injection q with q
  subst hA;clear o5 ev hd ht hjl';have hc1:(um s u1 vo).count=u1.count:=rfl
  cases hT:u1.tell t with
  | error q=>
   obtain ⟨E,u2⟩:=q;rw [hT] at hR;obtain ⟨rfl,hu2⟩:=JK hT;have hbig:200000 < (um s u1 vo).count+(ba t).size+1:=by
    rw [hc1,ay];unfold Ust.tell at hT;split at hT
    .assumption
    .cases hT
   have H:=hid (Mw HS.out.1 hbig (by rw [hc1,ay];have:=HU.out.2.ct;omega));have HN:=hid hR;have HU2:=hid hu2;clear hR hT hbig hu2;go_wp2_with fail;refine H.out.mono ?_;rintro r w2 ⟨rfl,m2,g2⟩;have M2:=hid (And.intro m2 g2);clear m2 g2;go_wp2_with fail;refine ⟨rfl,?_⟩;rw [HBT.out,HN.out];refine ⟨rfl,_,?_,M2.out.1,HS.out.2.trans M2.out.2⟩;show ({ s.p with count:=u1.count+(ba t).size+1,out:=u1.out }:Pst)=_;rw [HP.out,HU2.out,HU.out.1,ay]
   rfl
  | ok u2=>
   rw [hT] at hR;dsimp only at hR;obtain ⟨hok2,heq2⟩:=HU.out.2.tell hT;have hu2:u2={ u1 with count:=u1.count+t.length+1,out:=u1.out++t++[10] }/\¬ 200000 < u1.count+t.length+1:=by
    unfold Ust.tell at hT;split at hT
    .cases hT
    .rename_i hn;injection hT with hT;exact ⟨hT.symm,hn⟩
   have H:=hid (Mu (text:=ba t) HS.out.1 (by rw [hc1,ay];omega) HU.out.2.ot);have HN:=hid hR;have HU2:=hid hu2;have HOK:=hid hok2;clear hR hT hu2 hok2 heq2;go_wp2_with fail;refine H.out.mono ?_;rintro r w2 ⟨rfl,v2,m2,g2⟩;have e2:({ um s u1 vo with count:=(um s u1 vo).count+(ba t).size+1,r:={ (um s u1 vo).r with vo:=v2,out:=(um s u1 vo).r.out++(ba t).data.toList++[10] } }:Mst)=um s u2 v2:=by
    rw [HU2.out.1,ay,dQ]
    rfl
   rw [e2] at m2;have M2:Hid (Mac w0 w2 mb sb db (um s u2 v2)/\Gr mb db w s.r w2 (um s u2 v2).r):=hid ⟨m2,HS.out.2.trans (by rw [<-e2];exact g2)⟩;have U2:Hid (u2={ u with count:=u2.count,out:=u2.out }/\UOk u2):=hid ⟨by rw [HU2.out.1,HU.out.1],HOK.out⟩;clear m2 g2 e2;go_wp2_with fail;go_round
   case rel=>exact ⟨j+1,u2,v2,by omega,rfl,M2,U2,HN⟩
   case measure=>simp [intOf];omega
end
theorem UOk.tellL:∀ {l:List (List UInt8)} {u u':Ust},UOk u->Ust.tellL l u=.ok u'->UOk u'/\u'={ u with count:=u'.count,out:=u'.out }
 | [],u,u',h,e=>by
  injection e with e;subst e;exact ⟨h,rfl⟩
 | t::l,u,u',h,e=>by
  unfold Ust.tellL at e;split at e
  .cases e
  .rename_i u1 h1;obtain ⟨q1,q2⟩:=h.tell h1;obtain ⟨q3,q4⟩:=q1.tellL e;refine ⟨q3,?_⟩;rw [q4];show ({ u1 with count:=u'.count,out:=u'.out }:Ust)=_;rw [q2]
theorem UOk.brought {u u':Ust} (h:UOk u) (e:u.brought=.ok u'):UOk u'/\u'={ u with count:=u'.count,out:=u'.out,br:=[] }:=by
 rw [lz] at e
 cases h1:Ust.tellL u.br u with
 | error q=>rw [h1] at e;cases e
 | ok u1=>
  rw [h1] at e;injection e with e;subst e;obtain ⟨q1,q2⟩:=h.tellL h1;refine ⟨⟨q1.sp,q1.hd,q1.ct,q1.ot,q1.fb,fun t ht=>(by cases ht),by show 0<=2001;omega,q1.lf⟩,?_⟩;rw [q2]
theorem UOk.dN {u u':Ust} {q:Bool} (h:UOk u) (e:u.dN q=.ok u'):UOk u'/\u'={ u with count:=u'.count,out:=u'.out,br:=[] }:=by
 unfold Ust.dN at e
 cases q
 .rw [Nr (by simp)] at e
  cases h1:u.tell u.space with
  | error q=>rw [h1] at e;cases e
  | ok u1=>
   rw [h1] at e;obtain ⟨q1,q2⟩:=h.tell h1;obtain ⟨q3,q4⟩:=q1.brought e;refine ⟨q3,?_⟩;rw [q4];show ({ u1 with count:=u'.count,out:=u'.out,br:=[] }:Ust)=_;rw [q2]
 .rw [Ny rfl] at e;exact h.brought e
theorem UOk.aU {u:Ust} (h:UOk u) (wn:Wn):UOk { u with aU:=wn }:=⟨h.sp,h.hd,h.ct,h.ot,h.fb,h.bt,h.bl,h.lf⟩
section
variable {w0 w w' w2:World} {mb sb db lo hi:Nat} {s s':Mst} {u:Ust} {σ:Sst}
theorem dC.pre {w1:World} {R:RU} {e:Ending} (k:Kp [] w w1) (h:dC w0 mb sb db w1 s R e w'):dC w0 mb sb db w s R e w':=by
 cases R with
 | ok u=>exact ⟨h.1,h.2.pre k⟩
 | error q=>exact ⟨h.1,h.2.pre k⟩
theorem dC.after {R:RU} {e:Ending} (g:Gr mb db w s.r w' s'.r) (h:dC w0 mb sb db w' s' R e w2):dC w0 mb sb db w s R e w2:=by
 cases R with
 | ok u=>
  obtain ⟨h1,s2,h2,h3,h4⟩:=h;exact ⟨h1,s2,h2,h3,g.trans h4⟩
 | error q=>
  obtain ⟨h1,s2,h2,h3,h4⟩:=h;exact ⟨h1,s2,h2,h3,g.trans h4⟩
theorem uq (h:Mac w0 w mb sb db s) (hs:Scr lo hi w0 sb 0 σ) (hp:s.p=u.p) (hu:UOk u) :
  Calls Tryz.prog 122 #[.pointer (some ⟨mb,0,none⟩)] w (dC w0 mb sb db w s (u.dN σ.quiet)):=by
 have hq:=(hs.aj h.r.kp (fun _ e=>by cases e)).c0;have c0:=h.b.at_ 0 _ rfl;have c9:=h.b.at_ 9 _ rfl;have hsp:s.space=ba u.space:=congrArg Pst.space hp;rw [hsp] at c9;have hl:=hu.sp;have TT:=iG (t:=u.space) (h.aj (Kp.drew [] w)) hp hu (by omega);unfold Ust.dN
 cases hqq:σ.quiet
 .rw [hqq] at hq;rw [Nr (by simp)]
  cases hT:u.tell u.space with
  | error q=>
   obtain ⟨E,u1⟩:=q;rw [hT] at TT;have HT:=hid TT;clear TT hT;go_enter Tryz.func122,Tryz.ntmps122
   go_wp2_with fail;go_region_dies
   refine HT.out.mono ?_;rintro r w1 ⟨rfl,g1⟩;exact ⟨rfl,rfl,g1.pre (Kp.drew [] w)⟩
  | ok u1=>
   rw [hT] at TT;have HT:=hid TT;have HU:=hid (hu.tell hT).1;clear TT hT;go_enter Tryz.func122,Tryz.ntmps122
   go_wp2_with fail;go_region_with (go_at_call 112;refine HT.out.mono ?_;rintro r w1 ⟨rfl,g1⟩)
   go_wp2_with fail;obtain ⟨s1,e1,m1,gr1⟩:=g1;refine (eh m1 e1 HU.out).mono ?_;intro r w2 hr
   cases hB:u1.brought with
   | error q=>
    obtain ⟨E,u2⟩:=q;rw [hB] at hr;obtain ⟨rfl,s2,e2,m2,gr2⟩:=hr;go_wp2_with fail;exact ⟨rfl,rfl,s2,e2,m2,(Gr.df (Kp.drew [] w) (fun _ e=>by cases e)).trans (gr1.trans gr2)⟩
   | ok u2=>
    rw [hB] at hr;obtain ⟨rfl,s2,e2,m2,gr2⟩:=hr;go_wp2_with fail;go_end0;rw [hB];exact ⟨rfl,s2,e2,m2,(Gr.df (Kp.drew [] w) (fun _ e=>by cases e)).trans (gr1.trans gr2)⟩
 .rw [hqq] at hq;rw [Ny rfl];go_enter Tryz.func122,Tryz.ntmps122
  go_wp2_with fail;refine (eh h hp hu).mono ?_;intro r w2 hr
  cases hB:u.brought with
  | error q=>
   obtain ⟨E,u2⟩:=q;rw [hB] at hr;obtain ⟨rfl,g2⟩:=hr;go_wp2_with fail;exact ⟨rfl,rfl,g2⟩
  | ok u2=>
   rw [hB] at hr;obtain ⟨rfl,g2⟩:=hr;go_wp2_with fail;go_end0;rw [hB];exact ⟨rfl,g2⟩
end
