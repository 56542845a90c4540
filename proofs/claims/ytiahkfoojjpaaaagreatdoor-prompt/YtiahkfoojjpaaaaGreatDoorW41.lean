/- What the claim needs of: VM VN VO. -/
import Derived.Test.YtiahkfoojjpaaaaGreatDoorW40
set_option maxRecDepth 100000
set_option maxHeartbeats 16000000
set_option linter.unusedVariables false
set_option linter.unusedSimpArgs false
namespace Go.Proofs.YtiahkfoojjpaaaaGreatDoor
open Go.RowKit
section
variable {fs:List (Nat×Obj)} {cv cv':List Value} {c c2:dz}
theorem CK (hl:Cv cv) (h6:cv[6]? = some (.string c.name)) (h7:cv[7]? = some (.int .i64 c.file)) (h16:cv[16]? = some (.bool c.all)) (h17:cv[17]? = some (.int .i64 c.number)) (h18:cv[18]? = some (.bool c.print)):FlC cv c=cv:=by
 obtain ⟨x0,x1,x2,x3,x4,x5,x6,x7,x8,x9,x10,x11,x12,x13,x14,x15,x16,x17,x18,x19,x20,x21,x22,rfl⟩:=dU hl.len;have e6:x6=_:=Option.some.inj h6;have e7:x7=_:=Option.some.inj h7;have e16:x16=_:=Option.some.inj h16;have e17:x17=_:=Option.some.inj h17;have e18:x18=_:=Option.some.inj h18;subst e6 e7 e16 e17 e18
 rfl
theorem PatV.same {p:Option Ptn} (h:PatV fs cv p) (h1:cv'[11]? = cv[11]?) (h2:cv'[12]? = cv[12]?):PatV fs cv' p:=by
 cases p with
 | none=>exact ⟨h1.trans h.1,h2.trans h.2⟩
 | some p=>
  obtain ⟨v,t,e1,e2,h⟩:=h;exact ⟨v,t,h1.trans e1,h2.trans e2,h⟩
theorem gy.flc (h:gy fs cv c) (hl:Cv cv) (hc:c2={ c with name:=c2.name,file:=c2.file,all:=c2.all,number:=c2.number,print:=c2.print }):gy fs (FlC cv c2) c2:=by
 have l1:c2.label=c.label:=(congrArg dz.label hc).trans rfl;have l2:c2.goal=c.goal:=(congrArg dz.goal hc).trans rfl;have l3:c2.status=c.status:=(congrArg dz.status hc).trans rfl;have l4:c2.text=c.text:=(congrArg dz.text hc).trans rfl;have l5:c2.pat=c.pat:=(congrArg dz.pat hc).trans rfl;have l6:c2.new=c.new:=(congrArg dz.new hc).trans rfl;have l7:c2.dm=c.dm:=(congrArg dz.dm hc).trans rfl;have l8:c2.rL=c.rL:=(congrArg dz.rL hc).trans rfl;have l9:c2.yto=c.yto:=(congrArg dz.yto hc).trans rfl;clear hc;obtain ⟨x0,x1,x2,x3,x4,x5,x6,x7,x8,x9,x10,x11,x12,x13,x14,x15,x16,x17,x18,x19,x20,x21,x22,rfl⟩:=dU hl.len;refine ⟨?_,?_,rfl,rfl,?_,?_,?_,?_,?_,?_,?_,rfl,rfl,rfl,?_,?_,?_,?_⟩
 .rw [l1];exact h.c4
 .rw [l2];exact h.c5
 .rw [l3];exact h.c8
 .rw [l4];exact h.c9
 .rw [l4];exact h.c10
 .rw [l5];exact h.c11.same rfl rfl
 .rw [l6];exact h.c13
 .rw [l6];exact h.c14
 .rw [l7];exact h.c15
 .rw [l8];exact h.c19
 .rw [l8];exact h.c20
 .rw [l9];exact h.c21
 .rw [l9];exact h.c22
theorem uH.goal (h:uH fs cv c) (n:Nat):uH fs (cv.set 5 (.int .i64 n)) { c with goal:=n }:=by
 have l5:5 < cv.length:=by
  have:=h.rest.c5;rw [List.getElem?_eq_some_iff] at this;exact this.1
 have q:∀ j,j≠5->(cv.set 5 (.int .i64 n))[j]? = cv[j]?:=fun j hj=>Ol (Ne.symm hj);obtain ⟨v0,h0,h0'⟩:=h.c0;obtain ⟨v15,h15,h15'⟩:=h.rest.c15;refine ⟨⟨v0,(q 0 (by omega)).trans h0,h0'⟩,(q 1 (by omega)).trans h.c1,(q 2 (by omega)).trans h.c2,(q 3 (by omega)).trans h.c3,?_⟩;refine ⟨(q 4 (by omega)).trans h.rest.c4,Oj l5,(q 6 (by omega)).trans h.rest.c6,(q 7 (by omega)).trans h.rest.c7,(q 8 (by omega)).trans h.rest.c8,(q 9 (by omega)).trans h.rest.c9,(q 10 (by omega)).trans h.rest.c10,h.rest.c11.same (q 11 (by omega)) (q 12 (by omega)),(q 13 (by omega)).trans h.rest.c13,(q 14 (by omega)).trans h.rest.c14,⟨v15,(q 15 (by omega)).trans h15,h15'⟩,(q 16 (by omega)).trans h.rest.c16,(q 17 (by omega)).trans h.rest.c17,(q 18 (by omega)).trans h.rest.c18,(q 19 (by omega)).trans h.rest.c19,(q 20 (by omega)).trans h.rest.c20,(q 21 (by omega)).trans h.rest.c21,(q 22 (by omega)).trans h.rest.c22⟩
end
theorem jt.names {σ σ':Sst} {r:RdS} {l:List ByteArray} (h:jt σ r) (hn:NmTo σ σ' l):jt σ' { r with names:=l }:=by
 obtain ⟨hr,v,e⟩:=hn;have e1:σ'.cs=σ.cs:=(congrArg Sst.cs e).trans rfl;have e2:σ'.fs=σ.fs:=(congrArg Sst.fs e).trans rfl;refine ⟨by rw [e1];exact h.len,fun i cv c h1 h2=>?_,hr,(congrArg Sst.ranges e).trans h.rg,(congrArg Sst.bs e).trans h.bs,(congrArg Sst.ls e).trans h.ls,(congrArg Sst.gs e).trans h.gs⟩;rw [e1] at h1;rw [e2];exact h.cs i cv c h1 h2
theorem uu {α:Type} (p:α->Bool):∀ l:List α,l.any p=(l.find? p).isSome
 | []=>rfl
 | a::l=>by
  rw [List.any_cons,Pm,uu p l]
  cases p a <;> rfl
section
variable {w0:World} {f b k:Nat} {src:ByteArray} {σ:Sst} {r:RdS} {L:List gi} {rn x:Nat} {nt:Bool}
theorem gY {e:Nat} {r2:RdS} {c2:dz} {R:Sst->List Value->Sst->List Value->Prop} (h:Fe w0 f b src k e σ R)
  (hx:∀ cv σ' cv',Cz cv->Cv cv->R σ cv σ' cv'->cv'.take 4=cv.take 4/\gy σ'.fs cv' c2/\(jt σ r->jt σ' r2)/\NP σ σ'):ik w0 f b src k σ r (.ok (e,r2,c2)):=by
 intro w cb cv hs hb hl hz hf hsl;refine (h w cb cv hs hb hl hz hf hsl).mono ?_;rintro q w1 ⟨σ',cv',rfl,s1,b1,l1,f1,hR⟩;obtain ⟨x1,x2,x3,x4⟩:=hx cv σ' cv' hz hl hR;exact ⟨rfl,σ',cv',s1,b1,l1,f1,x1,x2,x3,x4⟩
theorem gL {E pl:Nat} (h:OpF w0 f b src k σ E pl):ik w0 f b src k σ r (.error (E,pl)):=by
 intro w cb cv hs hb hl hz hf hsl;refine (h w cb cv hs hb hl hz hf hsl).mono ?_;rintro q w1 ⟨rfl,hk⟩;exact ⟨rfl,hk⟩
theorem zJ:ik w0 101 b src k σ r (.ok (k,r,dv L rn nt x)):=
 gY ((DV w0 b src k).at_ σ) (by rintro cv σ' cv' hz hl ⟨rfl,rfl⟩;exact ⟨rfl,dr hz L rn nt x,fun h=>h,⟨rfl,rfl,fun _ h=>h⟩⟩)
theorem DW (hk:k<=src.size):ik w0 99 b src k σ r (operE src k r (dv L rn nt 113)):=by
 have hle:=eF hk
 cases h:JY src 0 255 (blk src k) with
 | error pl=>
  have e:operE src k r (dv L rn nt 113)=.error (4,pl):=by simp only [operE,dv,Nat.reduceEqDiff,if_false,or_self,if_true,h]
  rw [e];exact gL (DX (tG h))
 | ok p=>
  obtain ⟨e,v⟩:=p;have e1:operE src k r (dv L rn nt 113)=.ok (e,r,{ dv L rn nt 113 with status:=v }):=by simp only [operE,dv,Nat.reduceEqDiff,if_false,or_self,if_true,h]
  rw [e1];refine gY ((Hv w0 (tF (by omega) hle h)).at_ σ) ?_;rintro cv σ' cv' hz hl ⟨rfl,rfl⟩;have rz:=dr (fs:=σ'.fs) hz L rn nt 113;obtain ⟨x0,x1,x2,x3,x4,x5,x6,x7,x8,x9,x10,x11,x12,x13,x14,x15,x16,x17,x18,x19,x20,x21,x22,rfl⟩:=dU hl.len;exact ⟨rfl,⟨rz.c4,rz.c5,rz.c6,rz.c7,rfl,rz.c9,rz.c10,rz.c11,rz.c13,rz.c14,rz.c15,rz.c16,rz.c17,rz.c18,rz.c19,rz.c20,rz.c21,rz.c22⟩,fun h=>h,⟨rfl,rfl,fun _ h=>h⟩⟩
theorem La (hr:MP σ r) (hk:1<=k) (h8:r.blocks.length<=8) (hcs:r.aI.length<=2000):ik w0 92 b src k σ r (operE src k r (dv L rn nt 123)):=by
 by_cases h:r.blocks.length=8
 .have e:operE src k r (dv L rn nt 123)=.error (6,k - 1):=by simp only [operE,dv,if_true,h]
  rw [e];exact gL (Ld (by rw [hr.bs];exact h) hk)
 .have e:operE src k r (dv L rn nt 123)=.ok (k,{ r with blocks:=r.blocks++[r.aI.length] },dv L rn nt 123):=by simp only [operE,dv,if_true,h,if_false]
  rw [e];refine gY (op_open (by rw [hr.bs];omega) (by rw [hr.len];exact hcs)) ?_;rintro cv σ' cv' hz hl ⟨⟨v,rfl⟩,rfl⟩;exact ⟨rfl,dr hz L rn nt 123,fun hr=>⟨hr.len,hr.cs,⟨hr.nm.ns,hr.nm.nm⟩,hr.rg,by show σ.bs++_=r.blocks++_;rw [hr.bs,hr.len],hr.ls,hr.gs⟩,⟨rfl,rfl,fun _ h=>h⟩⟩
theorem KZ (hr:MP σ r) (hk:1<=k) (h8:r.blocks.length<=8) (hcs:r.aI.length<=2000) (hbl:∀ i∈r.blocks,i < r.aI.length):ik w0 93 b src k σ r (operE src k r (dv L rn nt 125)):=by
 cases h:r.blocks.getLast? with
 | none=>
  have e:operE src k r (dv L rn nt 125)=.error (6,k - 1):=by simp only [operE,dv,Nat.reduceEqDiff,if_false,if_true,h]
  rw [e];exact gL (Lc (by rw [hr.bs];exact List.getLast?_eq_none_iff.1 h) hk)
 | some i=>
  have e:operE src k r (dv L rn nt 125)=.ok (k,{ r with blocks:=r.blocks.dropLast,aI:=r.aI.modify i fun d=>{ d with goal:=r.aI.length } },dv L rn nt 125):=by simp only [operE,dv,Nat.reduceEqDiff,if_false,if_true,h]
  rw [e];obtain ⟨l,hl⟩:=List.getLast?_eq_some_iff.1 h;have hi:i < r.aI.length:=hbl i (by rw [hl];simp);have hll:l.length<=8:=by rw [hl,N9] at h8;omega
  obtain ⟨c,hc⟩:∃ c,σ.cs[i]? = some c:=⟨_,Ob (by rw [hr.len];exact hi)⟩;refine gY (op_shut (hr.bs.trans hl) hc (by rw [hr.len];exact hcs) hll) ?_;rintro cv σ' cv' hz hlv ⟨l',i',c',v,q1,q2,rfl,rfl⟩;rw [hr.bs.trans hl] at q1;obtain ⟨rfl,q3⟩:=List.append_inj' q1 rfl;injection q3 with q3;subst q3;rw [hc] at q2;injection q2 with q2;subst q2;refine ⟨rfl,dr hz L rn nt 125,fun hr=>⟨by simp [hr.len],fun j cv c2 h1 h2=>?_,⟨hr.nm.ns,hr.nm.nm⟩,hr.rg,by show l=r.blocks.dropLast;rw [hl,List.dropLast_concat],hr.ls,hr.gs⟩,⟨rfl,by simp,fun _ h=>h⟩⟩;replace h1:(σ.cs.set i (c.set 5 (.int .i64 (σ.cs.length:Int))))[j]? = some cv:=h1;replace h2:(r.aI.modify i fun d=>{ d with goal:=r.aI.length })[j]? = some c2:=h2;rw [PO] at h2;by_cases hj:i=j
  .subst hj;rw [Oj (by rw [hr.len];exact hi)] at h1;injection h1 with h1;subst h1;obtain ⟨d,hd⟩:∃ d,r.aI[i]? = some d:=⟨_,Ob hi⟩;rw [hd] at h2;simp only [if_true] at h2;injection h2 with h2;subst h2;rw [hr.len];exact (hr.cs i c d hc hd).goal _
  .rw [Ol hj] at h1;simp only [hj,if_false] at h2;exact hr.cs j cv c2 h1 (by simpa using h2)
theorem Hw (hr:MP σ r) (hk:k<=src.size) (hcs:r.aI.length<=2000):ik w0 94 b src k σ r (operE src k r (dv L rn nt 58)):=by
 have hle:=eF hk
 cases h:wdE src (blk src k) (src.size+1) (blk src k) with
 | error pl=>
  have e:operE src k r (dv L rn nt 58)=.error (4,pl):=by simp only [operE,dv,Nat.reduceEqDiff,if_false,if_true,wordE,h]
  rw [e];exact gL (Hy (rN (by omega) hle h))
 | ok e=>
  have hw:wordE src k=.ok (e,src.extract (blk src k) e):=by unfold wordE;rw [h]
  have hx:=jw hk hw;obtain ⟨x,hxe⟩:∃ x,x=src.extract (blk src k) e:=⟨_,rfl⟩;rw [<-hxe] at hw hx
  cases ha:r.labels.any (x == ·.1)
  .have e1:operE src k r (dv L rn nt 58)=.ok (e,{ r with labels:=r.labels++[(x,r.aI.length)] },{ dv L rn nt 58 with label:=x }):=by simp only [operE,dv,Nat.reduceEqDiff,if_false,if_true,hw,ha,PA]
   rw [e1];refine gY (KY (uN h) hxe.symm (by rw [hr.ls];exact jz x _ 0 0 ha) (by rw [hr.len];exact hcs)) ?_;rintro cv σ' cv' hz hl ⟨rfl,rfl⟩;have rz:=dr (fs:=σ.fs) hz L rn nt 58;obtain ⟨x0,x1,x2,x3,x4,x5,x6,x7,x8,x9,x10,x11,x12,x13,x14,x15,x16,x17,x18,x19,x20,x21,x22,rfl⟩:=dU hl.len;exact ⟨rfl,⟨rfl,rz.c5,rz.c6,rz.c7,rz.c8,rz.c9,rz.c10,rz.c11,rz.c13,rz.c14,rz.c15,rz.c16,rz.c17,rz.c18,rz.c19,rz.c20,rz.c21,rz.c22⟩,fun hr=>⟨hr.len,hr.cs,⟨hr.nm.ns,hr.nm.nm⟩,hr.rg,hr.bs,by show σ.ls++_=r.labels++_;rw [hr.ls,hr.len],hr.gs⟩,⟨rfl,rfl,fun _ h=>h⟩⟩
  .have e1:operE src k r (dv L rn nt 58)=.error (5,e - x.size):=by simp only [operE,dv,Nat.reduceEqDiff,if_false,if_true,hw,ha]
   rw [e1];rw [uu] at ha;obtain ⟨⟨y,n⟩,hy⟩:=Option.isSome_iff_exists.1 ha;obtain ⟨j,hj⟩:=il x _ 0 0 y n hy;exact gL (Hx (uN h) hxe.symm (by omega) (by rw [hr.ls];exact hj))
theorem qJ (hx:x=98\/x=116) (hr:MP σ r) (hk:k<=src.size) (hsz:src.size<=2000) (hcs:r.aI.length<=2000):ik w0 95 b src k σ r (operE src k r (dv L rn nt x)):=by
 have hle:=eF hk;have hle2:=eF hle;have n1:x≠123:=by omega
 have n2:x≠125:=by omega
 have n3:x≠58:=by omega
 cases hw:isW src (blk src k)
 .have e:operE src k r (dv L rn nt x)=.ok (blk src k,{ r with wanted:=r.wanted++[(r.aI.length,blk src k)] },dv L rn nt x):=by
   unfold operE;rw [show (dv L rn nt x).what=x from rfl,N7 n1,N7 n2,N7 n3,Oa hx,hw,N7 (by simp)]
  rw [e];refine gY (Lf hw rfl rfl (by omega) (by rw [hr.len];exact hcs)) ?_;rintro cv σ' cv' hz hl ⟨⟨v,rfl⟩,rfl⟩;have rz:=dr (fs:=σ.fs) hz L rn nt x;obtain ⟨x0,x1,x2,x3,x4,x5,x6,x7,x8,x9,x10,x11,x12,x13,x14,x15,x16,x17,x18,x19,x20,x21,x22,rfl⟩:=dU hl.len;exact ⟨rfl,⟨rfl,rz.c5,rz.c6,rz.c7,rz.c8,rz.c9,rz.c10,rz.c11,rz.c13,rz.c14,rz.c15,rz.c16,rz.c17,rz.c18,rz.c19,rz.c20,rz.c21,rz.c22⟩,fun hr=>⟨hr.len,hr.cs,⟨hr.nm.ns,hr.nm.nm⟩,hr.rg,hr.bs,hr.ls,by show σ.gs++_=r.wanted++_;rw [hr.gs,hr.len]⟩,⟨rfl,rfl,fun _ h=>h⟩⟩
 .cases h:wdE src (blk src (blk src k)) (src.size+1) (blk src (blk src k)) with
  | error pl=>
   have e:operE src k r (dv L rn nt x)=.error (4,pl):=by
    unfold operE;rw [show (dv L rn nt x).what=x from rfl,N7 n1,N7 n2,N7 n3,Oa hx,hw,Oa rfl];unfold wordE;rw [h]
   rw [e];exact gL (DY hw (rN (by omega) hle2 h))
  | ok e=>
   have hwd:wordE src (blk src k)=.ok (e,src.extract (blk src (blk src k)) e):=by unfold wordE;rw [h]
   have hy:=jw hle hwd;obtain ⟨y,hye⟩:∃ y,y=src.extract (blk src (blk src k)) e:=⟨_,rfl⟩;rw [<-hye] at hwd hy;have e1:operE src k r (dv L rn nt x)=.ok (e,{ r with wanted:=r.wanted++[(r.aI.length,e - y.size)] },{ dv L rn nt x with label:=y }):=by
    unfold operE;rw [show (dv L rn nt x).what=x from rfl,N7 n1,N7 n2,N7 n3,Oa hx,hw,Oa rfl,hwd]
    rfl
   rw [e1];refine gY (Le (pl:=e - y.size) hw (uN h) hye.symm (by omega) (by omega) (by rw [hr.len];exact hcs)) ?_;rintro cv σ' cv' hz hl ⟨⟨v,rfl⟩,rfl⟩;have rz:=dr (fs:=σ.fs) hz L rn nt x;obtain ⟨x0,x1,x2,x3,x4,x5,x6,x7,x8,x9,x10,x11,x12,x13,x14,x15,x16,x17,x18,x19,x20,x21,x22,rfl⟩:=dU hl.len;exact ⟨rfl,⟨rfl,rz.c5,rz.c6,rz.c7,rz.c8,rz.c9,rz.c10,rz.c11,rz.c13,rz.c14,rz.c15,rz.c16,rz.c17,rz.c18,rz.c19,rz.c20,rz.c21,rz.c22⟩,fun hr=>⟨hr.len,hr.cs,⟨hr.nm.ns,hr.nm.nm⟩,hr.rg,hr.bs,hr.ls,by show σ.gs++_=r.wanted++_;rw [hr.gs,hr.len]⟩,⟨rfl,rfl,fun _ h=>h⟩⟩
theorem tD (hx:x=97\/x=105\/x=99):ik w0 96 b src k σ r (operE src k r (dv L rn nt x)):=by
 intro w cb cv hs hb hl hz hf hsl;refine (text_o hs hb hl hf).mono ?_;intro q w1 hq
 have e:operE src k r (dv L rn nt x)=(match textE src (src.size+1) (blk src k) [] with
   | .error pl=>.error (4,pl)
   | .ok (e,l)=>.ok (e,r,{ dv L rn nt x with text:=⟨src.extract (blk src k) e,l⟩ })):=by
  unfold operE;rw [show (dv L rn nt x).what=x from rfl,N7 (by omega),N7 (by omega),N7 (by omega),N7 (by omega),Oa hx]
  cases textE src (src.size+1) (blk src k) [] <;> rfl
 rw [e]
 cases ht:textE src (src.size+1) (blk src k) [] with
 | error pl=>
  rw [ht] at hq;exact hq
 | ok p=>
  obtain ⟨e1,l⟩:=p;rw [ht] at hq;obtain ⟨rfl,s1,b1⟩:=hq;refine ⟨rfl,σ,_,s1,b1,(hl.set 9 rfl).set 10 rfl,hf,?_,?_,fun h=>h,⟨rfl,rfl,fun _ h=>h⟩⟩
  .obtain ⟨x0,x1,x2,x3,x4,x5,x6,x7,x8,x9,x10,x11,x12,x13,x14,x15,x16,x17,x18,x19,x20,x21,x22,rfl⟩:=dU hl.len
   rfl
  .have rz:=dr (fs:=σ.fs) hz L rn nt x;obtain ⟨x0,x1,x2,x3,x4,x5,x6,x7,x8,x9,x10,x11,x12,x13,x14,x15,x16,x17,x18,x19,x20,x21,x22,rfl⟩:=dU hl.len;exact ⟨rz.c4,rz.c5,rz.c6,rz.c7,rz.c8,rfl,rfl,rz.c11,rz.c13,rz.c14,rz.c15,rz.c16,rz.c17,rz.c18,rz.c19,rz.c20,rz.c21,rz.c22⟩
theorem Nz {w w1:World} {cb e:Nat} {cv:List Value} {c c2:dz} {r2:RdS} (hf:FileO w0 b cb src σ cv (e,r2,c2) w1) (hl:Cv cv) {σ0:Sst} (hr:jt σ0 r->jt σ r) (hx:gy σ.fs cv c) (hk:FlOk src k e r r2 c c2) {cv0:List Value} (h4:cv.take 4=cv0.take 4) (hfs:NP σ0 σ):OperR w0 b cb src σ0 cv0 r (e,r2,c2) w1:=by
 obtain ⟨σ',s1,b1,f1,hn⟩:=hf;have e1:σ'.fs=σ.fs:=(congrArg Sst.fs hn.2.choose_spec).trans rfl;refine ⟨σ',_,s1,b1,FlC.len hl,f1,?_,?_,?_,⟨(congrArg Sst.quiet hn.2.choose_spec).trans hfs.qt,(congrArg (fun q:Sst=>q.cs.length) hn.2.choose_spec).trans hfs.cl,fun f hf=>by rw [e1];exact hfs.fx f hf⟩⟩
 .rw [<-h4];obtain ⟨x0,x1,x2,x3,x4,x5,x6,x7,x8,x9,x10,x11,x12,x13,x14,x15,x16,x17,x18,x19,x20,x21,x22,rfl⟩:=dU hl.len
  rfl
 .rw [e1];exact hx.flc hl hk.ceq
 .intro h0;have:=(hr h0).names hn;rw [hk.req];exact this
theorem Lb (hr:MP σ r) (hk:k<=src.size):ik w0 100 b src k σ r (operE src k r (dv L rn nt 119)):=by
 intro w cb cv hs hb hl hz hf hsl;have rz:=dr (fs:=σ.fs) hz L rn nt 119;have hcc:FlC cv (dv L rn nt 119)=cv:=CK hl rz.c6 rz.c7 rz.c16 rz.c17 rz.c18;have e:operE src k r (dv L rn nt 119)=fileE src k r (dv L rn nt 119):=by
  unfold operE;rw [show (dv L rn nt 119).what=119 from rfl,N7 (by omega),N7 (by omega),N7 (by omega),N7 (by omega),N7 (by omega),N7 (by omega),N7 (by omega),N7 (by omega),Oa rfl]
 rw [e];refine (NH (c:=dv L rn nt 119) (r:=r) hs (by rw [hcc];exact hb) hl hf hsl hr.nm).mono ?_;intro q w1 hq
 cases hfe:fileE src k r (dv L rn nt 119) with
 | error p=>rw [hfe] at hq;exact hq
 | ok p=>
  obtain ⟨e1,r2,c2⟩:=p;rw [hfe] at hq;exact ⟨hq.1,Nz (w:=w) hq.2 hl (fun h=>h) rz (ua hk hfe).1 rfl NP.GV⟩
end
theorem LP {w:World} {p G:Nat} (h:w.cell? ⟨p,2,none⟩=some (.int .i64 G)):Calls Tryz.prog 141 #[.pointer (some ⟨p,0,none⟩)] w fun r w'=>r=.returned (.int .i64 G)/\w'=w:=by
 go_enter Tryz.func141,Tryz.ntmps141
 go_wp2_with fail;go_ret;exact ⟨rfl,rfl⟩
theorem Dz {fs:List (Nat×Obj)} {cv cv4:List Value} {L:List gi} {rn:Nat} {nt:Bool} {p:Ptn} {v t hv:Value} {raw:ByteArray} {l:List UInt8} {H:List (Nat×Nat)} (hz:Cz cv) (hl:Cv cv) (h4:cv4=((((cv.set 11 v).set 12 t).set 13 (.string raw)).set 14 (.string (ba l))).set 15 hv) (hp:PtnV fs v t p) (hh:rH fs hv H) :
  gy fs cv4 { dv L rn nt 115 with pat:=some p,new:=⟨raw,l⟩,dm:=H }:=by
 have rz:=dr (fs:=fs) hz L rn nt 115;obtain ⟨x0,x1,x2,x3,x4,x5,x6,x7,x8,x9,x10,x11,x12,x13,x14,x15,x16,x17,x18,x19,x20,x21,x22,rfl⟩:=dU hl.len;subst h4;exact ⟨rz.c4,rz.c5,rz.c6,rz.c7,rz.c8,rz.c9,rz.c10,⟨v,t,rfl,rfl,hp⟩,rfl,rfl,⟨hv,rfl,hh⟩,rz.c16,rz.c17,rz.c18,rz.c19,rz.c20,rz.c21,rz.c22⟩
section
variable {w0:World} {b k:Nat} {src:ByteArray} {σ:Sst} {r:RdS} {L:List gi} {rn:Nat} {nt:Bool}
theorem zI (hw0:Nm w0) (hr:MP σ r):ik w0 97 b src k σ r (operE src k r (dv L rn nt 115)):=by
 intro w cb cv hs hb hl hz hf hsl;have hlt:=hs.cur.lt;have hne:cb≠b:=fun e=>hf.bk 0 (by rw [e];rfl);have hsm:=hs.cur.small;have HF:=hid hf;have HR:=hid hr;have HZ:=hid hz;have HSL:=hid hsl;have PG:=oN hs.e (hs.nm hw0).1 (hs.nm hw0).2;obtain ⟨R,hR⟩:∃ R,R=operE src k r (dv L rn nt 115):=⟨_,rfl⟩;rw [<-hR];obtain ⟨c0,hc0⟩:∃ c0,c0=dv L rn nt 115:=⟨_,rfl⟩;have w115:c0.what=115:=by rw [hc0];rfl
 rw [<-hc0] at hR;unfold operE at hR;rw [w115,N7 (by omega),N7 (by omega),N7 (by omega),N7 (by omega),N7 (by omega),Oa rfl] at hR;have HC0:=hid hc0;clear hz hr hsl hc0 w115
 cases h1:patE src k with
 | error q=>
  obtain ⟨E,pl⟩:=q;rw [h1] at hR PG;have HRE:=hid hR;have HPG:=hid PG;clear hR PG;go_enter Tryz.func97,Tryz.ntmps97
  go_wp2_with fail;refine HPG.out.mono ?_;rintro q w1 ⟨rfl,m1⟩;go_wp2_with fail;refine ⟨rfl,?_⟩;rw [HRE.out];exact ⟨rfl,hs.qY m1⟩
 | ok q=>
 obtain ⟨e0,p⟩:=q;have hpe:=zH hsm h1;have hQ:∀ pb w,p.Q pb w->w.cell? ⟨pb,2,none⟩=some (.int .i64 p.G):=fun pb w h=>h.c2;have hG:=hpe.2.2.1.g;rw [h1] at hR PG;dsimp only at hR;have HQ:=hid hQ;have HPE:=hid hpe;have HRE:=hid hR;have HPG:=hid PG;clear hR PG h1 hQ hpe;have z11:cv[11]? = some (.pointer none):=by rw [show 11=4+7 from rfl,HZ.out.at_,HZ.out];rfl
 have z12:cv[12]? = some (.string ⟨#[]⟩):=by rw [show 12=4+8 from rfl,HZ.out.at_,HZ.out];rfl
 have z13:cv[13]? = some (.string ⟨#[]⟩):=by rw [show 13=4+9 from rfl,HZ.out.at_,HZ.out];rfl
 have z14:cv[14]? = some (.string ⟨#[]⟩):=by rw [show 14=4+10 from rfl,HZ.out.at_,HZ.out];rfl
 have z15:cv[15]? = some (.slice none 0 0):=by rw [show 15=4+11 from rfl,HZ.out.at_,HZ.out];rfl
 have hln:=hl.len;have HL:=hid hl;have HS:=hid hs;have HB:=hid hb;clear hs hb hl hf;go_enter Tryz.func97,Tryz.ntmps97
 go_wp2_with fail;refine HPG.out.mono ?_;rintro q w1 ⟨pb,gb,o1,o2,rfl,ho1,ho2,lpb,lgb,brs,c1,m1⟩;have c1:Cur w1 b src e0:=c1;have BRS:=hid brs;clear brs;have S1:=hid (HS.out.move m1 c1);have B1:=hid (HB.out.aj m1.kp (by simpa using hne));have d11:=B1.out.at_ 11 _ z11;have d12:=B1.out.at_ 12 _ z12;have f11:=B1.out.free 11;have f12:=B1.out.free 12;obtain ⟨txt,htx⟩:∃ txt,txt=p.txt:=⟨_,rfl⟩;rw [show ((e0,p):Nat×Ptn).2.txt=txt from htx.symm];have HTX:=hid htx;clear htx;obtain ⟨cv2,hcv2⟩:∃ cv2,cv2=(cv.set 11 (.pointer (some ⟨pb,0,none⟩))).set 12 (.string txt):=⟨_,rfl⟩;have B2:Hid (Bl ((w1.setCell ⟨cb,11,none⟩ (.pointer (some ⟨pb,0,none⟩))).setCell ⟨cb,12,none⟩ (.string txt)) cb cv2):=hid (by rw [hcv2];exact (B1.out.set 11 _ (by omega)).set 12 _ (by rw [OL];omega));have k2:Kp [cb] w1 ((w1.setCell ⟨cb,11,none⟩ (.pointer (some ⟨pb,0,none⟩))).setCell ⟨cb,12,none⟩ (.string txt)):=(Kp.setCell _ _ (by simp)).trans (Kp.setCell _ _ (by simp))
 have S2:=hid (S1.out.other k2 (fun y hy=>by simp at hy;rw [hy];exact HF.out));go_upto_region 1 with fail
 have hcbw:cb < w.heap.size:=HB.out.lt;have p1:pb < w1.heap.size:=lt_of_block ho1;have p2:gb < w1.heap.size:=lt_of_block ho2;have hpc:pb≠cb:=by omega
 have hgc:gb≠cb:=by omega
 have ho1:=(k2.block pb p1 (by simpa using hpc)).trans ho1;have ho2:=(k2.block gb p2 (by simpa using hgc)).trans ho2;have K2:=hid k2;generalize (w1.setCell ⟨cb,11,none⟩ (.pointer (some ⟨pb,0,none⟩))).setCell ⟨cb,12,none⟩ (.string txt)=w2 at *;have q11:cv2[11]? = some (.pointer (some ⟨pb,0,none⟩)):=by rw [hcv2,Ol (by omega),Oj (by omega)]
 have e11:=B2.out.at_ 11 _ q11;have cG:=HQ.out pb w2 (BRS.out w2 ho1 ho2);obtain ⟨G,hGe⟩:∃ G,G=p.G:=⟨_,rfl⟩;rw [<-hGe] at cG hG;have HGE:=hid hGe;clear d11 d12 f11 f12 k2 hGe;go_wp2_with fail;refine (LP cG).mono ?_;rintro q w2' ⟨rfl,rfl⟩;have NT:=Ii S2.out.e hG;have hRE:=HRE.out;rw [<-HGE.out] at hRE;clear HRE
 cases h2:newE src G (src.size+1) e0 [] [] with
 | error pl=>
  rw [h2] at hRE NT;have HRE:=hid hRE;have HNT:=hid NT;clear hRE NT h2;go_wp2_with fail;refine HNT.out.mono ?_;rintro q w3 ⟨rfl,m3⟩;go_wp2_with fail;refine ⟨rfl,?_⟩;rw [HRE.out];exact ⟨rfl,S2.out.qY m3⟩
 | ok q=>
 obtain ⟨e1,l,H⟩:=q;have hnle:=tI h2 ⟨fun q hq=>(by cases hq),List.Pairwise.nil⟩;rw [h2] at hRE NT;dsimp only at hRE;have HRE:=hid hRE;have HNT:=hid NT;have HNL:=hid hnle;clear hRE NT h2 hnle;go_wp2_with fail;refine HNT.out.mono ?_;rintro q w3 ⟨v,rfl,own,c3,m3⟩;have c3:Cur w3 b src e1:=c3;replace own:w3.ownsRow w2'.heap.size 211 2 v H.length (nD H):=own;have S3:=hid (S2.out.move m3 c3);have B3:=hid (B2.out.aj m3.kp (by simpa using hne));have hpb:pb≠b:=by omega
 have hgb:gb≠b:=by omega
 have z2:=K2.out.size;have ho1:=(m3.kp.block pb (by omega) (by simpa using hpb)).trans ho1;have ho2:=(m3.kp.block gb (by omega) (by simpa using hgb)).trans ho2;have q13:cv2[13]? = some (.string ⟨#[]⟩):=by rw [hcv2,Ol (by omega),Ol (by omega)];exact z13
 have q14:cv2[14]? = some (.string ⟨#[]⟩):=by rw [hcv2,Ol (by omega),Ol (by omega)];exact z14
 have q15:cv2[15]? = some (.slice none 0 0):=by rw [hcv2,Ol (by omega),Ol (by omega)];exact z15
 have hln2:cv2.length=23:=by rw [hcv2];simp [hln]
 have OW:=hid own;obtain ⟨A,hc,rfl⟩:=oO own;clear own e11 cG;have d13:=B3.out.at_ 13 _ q13;have d14:=B3.out.at_ 14 _ q14;have d15:=B3.out.at_ 15 _ q15;have f13:=B3.out.free 13;have f14:=B3.out.free 14;have f15:=B3.out.free 15;dsimp only;obtain ⟨raw,hraw⟩:∃ raw,raw=src.extract e0 (e1 - 1):=⟨_,rfl⟩;rw [<-hraw];have HRAW:=hid hraw;clear hraw;obtain ⟨cv4,hcv4⟩:∃ cv4,cv4=((cv2.set 13 (.string raw)).set 14 (.string (ba l))).set 15 (.slice A H.length hc):=⟨_,rfl⟩
 have B4:Hid (Bl (((w3.setCell ⟨cb,13,none⟩ (.string raw)).setCell ⟨cb,14,none⟩ (.string (ba l))).setCell ⟨cb,15,none⟩ (.slice A H.length hc)) cb cv4):=hid (by
  rw [hcv4];exact ((B3.out.set 13 _ (by omega)).set 14 _ (by rw [OL];omega)).set 15 _ (by rw [OL,OL];omega))
 have k4:Kp [cb] w3 (((w3.setCell ⟨cb,13,none⟩ (.string raw)).setCell ⟨cb,14,none⟩ (.string (ba l))).setCell ⟨cb,15,none⟩ (.slice A H.length hc)):=(Kp.setCell _ _ (by simp)).trans ((Kp.setCell _ _ (by simp)).trans (Kp.setCell _ _ (by simp)));have S4:=hid (S3.out.other k4 (fun y hy=>by simp at hy;rw [hy];exact HF.out));go_upto_region 2 with fail
 have z3:=m3.kp.size;have ho1:=(k4.block pb (by omega) (by simpa using hpc)).trans ho1;have ho2:=(k4.block gb (by omega) (by simpa using hgc)).trans ho2;have OW4:=hid (ai OW.out (fun g hg=>k4.block g (aC OW.out hg).2 (by rw [Oh];have:=(aC OW.out hg).1;omega)));have z4:=k4.size;generalize ((w3.setCell ⟨cb,13,none⟩ (.string raw)).setCell ⟨cb,14,none⟩ (.string (ba l))).setCell ⟨cb,15,none⟩ (.slice A H.length hc)=w4 at *;clear d13 d14 d15 f13 f14 f15 k4;have HL2:Cv cv2:=by rw [hcv2];exact (HL.out.set 11 rfl).set 12 rfl
 have HL4:Hid (Cv cv4):=hid (by rw [hcv4];exact ((HL2.set 13 rfl).set 14 rfl).set 15 rfl);obtain ⟨new,hnew,hfs⟩:∃ new:List (Nat×Obj),(∀ f∈new,w4.heap[f.1]? = some f.2/\w.heap.size<=f.1)/\∀ fs,(∀ f∈new,f∈fs)->(pb,o1)∈fs/\(gb,o2)∈fs/\rH fs (.slice A H.length hc) H:=by
  rcases OW4.out.2 with ⟨q1,q2⟩ | ⟨hb',cap,cur,q1,q2,q3,q4,q5,q6,q7⟩
  .refine ⟨[(pb,o1),(gb,o2)],fun f hf=>?_,fun fs h=>⟨h _ (by simp),h _ (by simp),A,hc,rfl,.inl (OH q2)⟩⟩;simp only [OQ,OZ,or_false] at hf;rcases hf with rfl | rfl
   .exact ⟨ho1,lpb⟩
   .exact ⟨ho2,lgb⟩
  .injection q1 with e1 e2 e3;refine ⟨[(pb,o1),(gb,o2),(hb',.cells cur 211 (0,0))],fun f hf=>?_,fun fs h=>⟨h _ (by simp),h _ (by simp),A,hc,rfl,.inr ⟨hb',cur,e1,h _ (by simp),q7⟩⟩⟩;simp only [OQ,OZ,or_false] at hf;rcases hf with rfl | rfl | rfl
   .exact ⟨ho1,lpb⟩
   .exact ⟨ho2,lgb⟩
   .exact ⟨q3,by have:=m1.kp.size;show w.heap.size<=hb';omega⟩
 have S5:=S4.out.uG new (fun f hf=>⟨(hnew f hf).1,(HS.out.dR (hnew f hf).2).lo,(HS.out.dR (hnew f hf).2).bk⟩)
 have F5:Sr.Far w0 b { σ with fs:=new++σ.fs } cb:=⟨HF.out.lo,HF.out.bk,fun f hf=>by
  rcases List.mem_append.1 hf with q | q
  .have:=(hnew f q).2;omega
  .exact HF.out.fx f q⟩
 obtain ⟨i1,i2,i3⟩:=hfs (new++σ.fs) (fun f hf=>Pv _ hf)
 have hrest:gy (new++σ.fs) cv4 { dv L rn nt 115 with pat:=some p,new:=⟨raw,l⟩,dm:=H }:=
  Dz (hv:=.slice A H.length hc) HZ.out HL.out (by rw [hcv4,hcv2]) ⟨pb,gb,o1,o2,rfl,by rw [HTX.out],i1,i2,BRS.out⟩ i3
 have hrel:jt σ r->jt { σ with fs:=new++σ.fs } r:=fun h=>h.mono (fun f hf=>Ph _ hf);have hcc:FlC cv4 { dv L rn nt 115 with pat:=some p,new:=⟨raw,l⟩,dm:=H }=cv4:=CK HL4.out hrest.c6 hrest.c7 hrest.c16 hrest.c17 hrest.c18;have FO:=hid (flags_o (cv:=cv4) (c:={ dv L rn nt 115 with pat:=some p,new:=⟨raw,l⟩,dm:=H }) (r:=r) S5 (by rw [hcc];exact B4.out) HL4.out F5 ⟨HSL.out.ns,HSL.out.bs,HSL.out.gs⟩ ⟨HR.out.nm.ns,HR.out.nm.nm⟩ (by show (0:Nat)<=_;omega));have HX:=hid (And.intro hrest hrel);have hRE:=HRE.out;rw [HC0.out,<-HRAW.out] at hRE;clear HRE hfs hnew hrest hrel hcc i1 i2 i3
 have H4:Hid (cv4.take 4=cv.take 4):=hid (by
  rw [hcv4,hcv2];obtain ⟨x0,x1,x2,x3,x4,x5,x6,x7,x8,x9,x10,x11,x12,x13,x14,x15,x16,x17,x18,x19,x20,x21,x22,rfl⟩:=dU HL.out.len
  rfl)
 cases h3:flagsE src (src.size+1) e1 r { dv L rn nt 115 with pat:=some p,new:=⟨raw,l⟩,dm:=H } with
 | error q=>
  obtain ⟨E,pl⟩:=q;rw [h3] at FO;have HRE:=hid (hRE.trans h3);clear hRE h3;go_wp2_with fail;refine FO.out.mono ?_;rintro q w5 ⟨rfl,k5⟩;go_wp2_with fail;refine ⟨rfl,?_⟩;rw [HRE.out];exact ⟨rfl,k5⟩
 | ok q=>
  obtain ⟨e2,r2,c2⟩:=q;have FK:=hid (iB HNL.out.2.1 h3);rw [h3] at FO;have HRE:=hid (hRE.trans h3);clear hRE h3;go_wp2_with fail;refine FO.out.mono ?_;rintro q w5 ⟨rfl,hq⟩;have HQ5:=hid hq;clear hq;go_wp2_with fail;refine bodyPost_ret (results_none rfl _ _ _) rfl ?_;rw [HRE.out];exact ⟨rfl,Nz (w:=w) HQ5.out HL4.out HX.out.2 HX.out.1 FK.out H4.out ⟨rfl,rfl,fun f hf=>Ph _ hf⟩⟩
end
theorem oo (x:Nat):∀ (l:List (Nat×Nat)) (c i:Nat),l.find? (fun q=>x == q.1)=none->Instr.findNow (.int .u8) (.int .u8 x) (tabE c l) i=some none
 | [],_,_,_=>rfl
 | (y,f)::l,c,i,h=>by
  rw [Pm] at h
  cases hxy:(x == y)
  .rw [hxy] at h;have hn:x≠y:=by simpa using hxy
   have hi:((x:Int) == (y:Int))=false:=by rw [Oe];omega
   rw [tabE];simpa [Instr.findNow,Instr.sameNow,hi,hn] using oo x l (c+1) (i+1) h
  .rw [hxy] at h
   cases h
theorem om (x:Nat):∀ (l:List (Nat×Nat)) (c i y f:Nat),l.find? (fun q=>x == q.1)=some (y,f)->∃ j,Instr.findNow (.int .u8) (.int .u8 x) (tabE c l) i=some (some (j,.func (.func f) #[] #[]))
 | [],_,_,_,_,h=>by cases h
 | (z,g)::l,c,i,y,f,h=>by
  rw [Pm] at h;rw [tabE]
  cases hxy:(x == z)
  .rw [hxy] at h;have hn:x≠z:=by simpa using hxy
   have hi:((x:Int) == (z:Int))=false:=by rw [Oe];omega
   obtain ⟨j,q⟩:=om x l (c+1) (i+1) y f h;exact ⟨j,by simpa [Instr.findNow,Instr.sameNow,hi,hn] using q⟩
  .rw [hxy] at h;injection h with h;injection h with h1 h2;subst h2;have hn:x=z:=by simpa using hxy
   subst hn;exact ⟨i,by simp [Instr.findNow,Instr.sameNow]⟩
theorem Ht {x:Nat} (h:jx.contains x=false):opsL.find? (fun q=>x == q.1)=none:=by
 rw [List.find?_eq_none];intro q hq e;have e:x=q.1:=by simpa using e
 have:∀ q∈opsL,jx.contains q.1=true:=by decide
 rw [e,this q hq] at h
 cases h
section
variable {w0 w:World} {b k:Nat} {src:ByteArray} {σ:Sst} {r:RdS} {L:List gi} {rn x:Nat} {nt:Bool}
theorem zK (h:x≠123/\x≠125/\x≠58/\¬ (x=98\/x=116)/\¬ (x=97\/x=105\/x=99)/\x≠115/\x≠121/\x≠113/\x≠119):operE src k r (dv L rn nt x)=.ok (k,r,dv L rn nt x):=by
 unfold operE;rw [show (dv L rn nt x).what=x from rfl,N7 h.1,N7 h.2.1,N7 h.2.2.1,N7 h.2.2.2.1,N7 h.2.2.2.2.1,N7 h.2.2.2.2.2.1,N7 h.2.2.2.2.2.2.1,N7 h.2.2.2.2.2.2.2.1,N7 h.2.2.2.2.2.2.2.2]
def OperX (w0:World) (b:Nat) (src:ByteArray) (k:Nat) (r:RdS) (x:Nat) (R:OpE):Prop:=
 ∃ f i,Instr.findNow (.int .u8) (.int .u8 x) (tabE 0 opsL) 0=some (some (i,.func (.func f) #[] #[]))/\Enters f/\∀ σ,MP σ r->ik w0 f b src k σ r R
theorem lG {f:Nat} {R:OpE} (hf:opsL.find? (fun q=>x == q.1)=some (x,f)) (he:Enters f) (ho:∀ σ,MP σ r->ik w0 f b src k σ r R):OperX w0 b src k r x R:=by
 obtain ⟨j,hj⟩:=om x opsL 0 0 x f hf;exact ⟨f,j,hj,he,ho⟩
theorem operN (hf:opsL.find? (fun q=>x == q.1)=some (x,101)) (h:x≠123/\x≠125/\x≠58/\¬ (x=98\/x=116)/\¬ (x=97\/x=105\/x=99)/\x≠115/\x≠121/\x≠113/\x≠119):OperX w0 b src k r x (operE src k r (dv L rn nt x)):=
 lG hf (fun p q w=>by simp [go_sem]) (fun σ _=>by rw [zK h];exact zJ)
theorem oper_g (hw0:Nm w0) (hx:jx.contains x=true) (hk1:1<=k) (hk:k<=src.size) (hsz:src.size<=2000) (h8:r.blocks.length<=8) (hcs:r.aI.length<=2000) (hbl:∀ i∈r.blocks,i < r.aI.length):OperX w0 b src k r x (operE src k r (dv L rn nt x)):=by
 have hm:x∈jx:=by simpa using hx
 simp only [jx,OQ,OZ,or_false] at hm;rcases hm with rfl | rfl | rfl | rfl | rfl | rfl | rfl | rfl | rfl | rfl | rfl | rfl | rfl | rfl | rfl | rfl | rfl | rfl | rfl | rfl | rfl | rfl | rfl | rfl | rfl
 .exact lG (f:=92) rfl (fun p q w=>by simp [go_sem]) (fun σ h=>La h hk1 h8 hcs)
 .exact lG (f:=93) rfl (fun p q w=>by simp [go_sem]) (fun σ h=>KZ h hk1 h8 hcs hbl)
 .exact lG (f:=94) rfl (fun p q w=>by simp [go_sem]) (fun σ h=>Hw h hk hcs)
 .exact lG (f:=95) rfl (fun p q w=>by simp [go_sem]) (fun σ h=>qJ (.inl rfl) h hk hsz hcs)
 .exact lG (f:=95) rfl (fun p q w=>by simp [go_sem]) (fun σ h=>qJ (.inr rfl) h hk hsz hcs)
 .exact lG (f:=96) rfl (fun p q w=>by simp [go_sem]) (fun σ _=>tD (.inl rfl))
 .exact lG (f:=96) rfl (fun p q w=>by simp [go_sem]) (fun σ _=>tD (.inr (.inl rfl)))
 .exact lG (f:=96) rfl (fun p q w=>by simp [go_sem]) (fun σ _=>tD (.inr (.inr rfl)))
 .exact lG (f:=97) rfl (fun p q w=>by simp [go_sem]) (fun σ h=>zI hw0 h)
 .exact lG (f:=98) rfl (fun p q w=>by simp [go_sem]) (fun σ _=>xF)
 .exact lG (f:=99) rfl (fun p q w=>by simp [go_sem]) (fun σ _=>DW hk)
 .exact lG (f:=100) rfl (fun p q w=>by simp [go_sem]) (fun σ h=>Lb h hk)
 all_goals exact operN rfl (by omega)
theorem De {e:Nat} {a:gi} (hk:k<=src.size) (h:adrE src k=.ok (e,a)):a.A.ok src k e:=by
 unfold adrE at h
 cases hd:isD src k
 .rw [hd,N7 (by simp)] at h
  cases h36:saw src k 36
  .rw [h36,N7 (by simp)] at h
   cases hp:patE src k with
   | error q=>rw [hp] at h;cases h
   | ok q=>
    obtain ⟨e1,p⟩:=q;rw [hp] at h;injection h with h;injection h with h1 h2;subst h1 h2;have h47:saw src k 47=true:=by
     cases h47:saw src k 47
     .unfold patE at hp;rw [h47,N7 (by simp)] at hp
      cases hp
     .rfl
    refine ⟨hd,h36,h47,fun w b hc hw hb hc2=>?_⟩;have:=oN ⟨hc,hc2⟩ hw hb;rw [hp] at this;exact this
  .rw [h36,Oa rfl] at h;injection h with h;injection h with h1 h2;subst h1 h2;exact ⟨hd,h36,rfl⟩
 .rw [hd,Oa rfl] at h
  cases hn:JY src 1 1000000 k with
  | error q=>rw [hn] at h;cases h
  | ok q=>
   obtain ⟨e1,v⟩:=q;rw [hn] at h;injection h with h;injection h with h1 h2;subst h1 h2;exact ⟨hd,_,tF (by omega) hk hn⟩
theorem adrsE_A {e:Nat} {L:List gi} (hsz:src.size<=2000) (hk:k<=src.size) (h:adrsE src k=.ok (e,L)):rJ src k e (L.map gi.A):=by
 unfold adrsE at h
 cases hA:isA src k
 .rw [hA,N7 (by simp)] at h;injection h with h;injection h with h1 h2;subst h1 h2;exact ⟨hA,rfl⟩
 .rw [hA,Oa rfl] at h
  cases h1:adrE src k with
  | error q=>rw [h1] at h;cases h
  | ok q=>
   obtain ⟨e1,a⟩:=q;rw [h1] at h;dsimp only at h
   cases h44:saw src e1 44
   .rw [h44,N7 (by simp)] at h;injection h with h;injection h with h2 h3;subst h2 h3;exact ⟨De hk h1,h44⟩
   .rw [h44,Oa rfl] at h
    cases h2:adrE src (e1+1) with
    | error q=>rw [h2] at h;cases h
    | ok q=>
     obtain ⟨e2,a2⟩:=q;rw [h2] at h;injection h with h;injection h with h3 h4;subst h3 h4;exact ⟨e1,De hk h1,h44,De (by have:=aN h44;omega) h2⟩
theorem yG {E pl:Nat} (hr:rI w b src k) (hw:Nm w) (hbg:b≠4) (h:adrE src k=.error (E,pl)) :
  Calls Tryz.prog 168 #[.pointer (some ⟨b,0,none⟩)] w fun r w'=>r=ig E pl/\Mv b w w':=by
 unfold adrE at h;have hlt:=hr.cur.lt;have kA:=Kp.alloc [] w (.cells (jo 0 0).toArray 132);have mA:Mv b w (w.alloc (.cells (jo 0 0).toArray 132)):=Mv.alloc hlt _;have hA:=hid (hr.move mA (hr.cur.aj kA (by simp)));have HW:=hid hw;clear hw
 cases hd:isD src k
 .rw [hd,N7 (by simp)] at h
  cases h36:saw src k 36
  .rw [h36,N7 (by simp)] at h
   cases hp:patE src k with
   | ok q=>rw [hp] at h;cases h
   | error q=>
    rw [hp] at h;injection h with h;subst h;have HP:=hid hp;have HD:=hid hd;have H36:=hid h36;clear hp hd h36;go_enter Tryz.func168,Tryz.ntmps168
    go_wp2_with fail;refine (dD hA.out.cur HD.out).mono ?_;rintro r w1 ⟨rfl,h1,m1⟩;go_wp2_with fail;refine (aY 36 h1 H36.out).mono ?_;rintro r w2 ⟨rfl,h2,m2⟩;have h2:Cur w2 b src k:=h2;have PG:=oN (hA.out.move (m1.trans m2) h2) (HW.out.aj (mA.trans (m1.trans m2)).kp (by simpa using Ne.symm hbg)) hbg;rw [HP.out] at PG;have HPG:=hid PG;clear PG;go_wp2_with fail;refine HPG.out.mono ?_;rintro r w3 ⟨rfl,m3⟩;go_wp2_with fail;exact ⟨rfl,rfl,mA.trans (m1.trans (m2.trans m3))⟩
  .rw [h36,Oa rfl] at h
   cases h
 .rw [hd,Oa rfl] at h
  cases hn:JY src 1 1000000 k with
  | ok q=>rw [hn] at h;cases h
  | error q=>
   rw [hn] at h;injection h with h;injection h with h1 h2;subst h1 h2;have HN:=hid hn;have HD:=hid hd;clear hn hd;go_enter Tryz.func168,Tryz.ntmps168
   go_wp2_with fail;refine (dD hA.out.cur HD.out).mono ?_;rintro r w1 ⟨rfl,h1,m1⟩;have NS:=num_s (lo:=1) (hi:=1000000) (by omega) (hA.out.move m1 h1);rw [HN.out] at NS;have HNS:=hid NS;clear NS;go_wp2_with fail;refine HNS.out.mono ?_;rintro r w3 ⟨rfl,m3⟩;go_wp2_with fail;exact ⟨rfl,rfl,mA.trans (m1.trans m3)⟩
theorem AN {E pl:Nat} (hs:Sr w0 w b src k σ) (hw0:Nm w0) (h:adrsE src k=.error (E,pl)) :
  Calls Tryz.prog 151 #[.pointer (some ⟨b,0,none⟩)] w fun r w'=>r=ig E pl/\Kp [] w0 w':=by
 have hk:=hs.cur.le;have hbg:=(hs.nm hw0).2;have HW:=hid (hs.nm hw0).1;have hE:=hid hs.e;have HS:=hid hs;clear hs;unfold adrsE at h
 cases hA:isA src k
 .rw [hA,N7 (by simp)] at h
  cases h
 .rw [hA,Oa rfl] at h;have HA:=hid hA;clear hA
  cases h1:adrE src k with
  | error q=>
   rw [h1] at h;injection h with h;subst h;have H1:=hid h1;clear h1;go_enter Tryz.func151,Tryz.ntmps151
   go_wp2_with fail;refine (eC hE.out.cur HA.out).mono ?_;rintro r w1 ⟨rfl,h1,m1⟩;go_wp2_with fail;refine (yG (hE.out.move m1 h1) (HW.out.aj m1.kp (by simpa using Ne.symm hbg)) hbg H1.out).mono ?_;rintro r w2 ⟨rfl,m2⟩;go_wp2_with fail;exact ⟨rfl,rfl,HS.out.qY (m1.trans m2)⟩
  | ok q=>
   obtain ⟨e1,a⟩:=q;rw [h1] at h;dsimp only at h;have HOK:=hid (De hk h1);clear h1
   cases h44:saw src e1 44
   .rw [h44,N7 (by simp)] at h
    cases h
   .rw [h44,Oa rfl] at h;have H44:=hid h44;clear h44
    cases h2:adrE src (e1+1) with
    | ok q=>rw [h2] at h;cases h
    | error q=>
     rw [h2] at h;injection h with h;subst h;have H2:=hid h2;clear h2;go_enter Tryz.func151,Tryz.ntmps151
     go_wp2_with fail;refine (eC hE.out.cur HA.out).mono ?_;rintro r w1 ⟨rfl,h1,m1⟩;go_wp2_with fail;refine (jW h1 (HW.out.aj m1.kp (by simpa using Ne.symm hbg)) hbg (hE.out.move m1 h1).c2 HOK.out).mono ?_;rintro r w2 ⟨va,rfl,hva,h2,m2⟩;obtain ⟨x0,x1,x2,x3,rfl,_⟩:=hva.four;clear hva;have E2:=hid (hE.out.move (m1.trans m2) h2);have mA:Mv b w2 (w2.alloc (.cells #[x0,x1,x2,x3] 132)):=Mv.alloc h2.lt _;have E3:=hid (E2.out.move mA (h2.aj (Kp.alloc [] w2 _) (by simp)));go_wp2_with fail;refine (aY 44 E3.out.cur H44.out).mono ?_;rintro r w3 ⟨rfl,h3,m3⟩;have h3:Cur w3 b src (e1+1):=h3;have m13:=(m1.trans m2).trans (mA.trans m3);go_wp2_with fail;refine (yG (hE.out.move m13 h3) (HW.out.aj m13.kp (by simpa using Ne.symm hbg)) hbg H2.out).mono ?_;rintro r w4 ⟨rfl,m4⟩;go_wp2_with fail;exact ⟨rfl,rfl,HS.out.qY (m13.trans m4)⟩
end
end Go.Proofs.YtiahkfoojjpaaaaGreatDoor
