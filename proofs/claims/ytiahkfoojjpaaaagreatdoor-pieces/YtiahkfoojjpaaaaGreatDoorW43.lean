/- What the claim needs of: VM VN VO VP. -/
import Derived.Test.YtiahkfoojjpaaaaGreatDoorW42
set_option maxRecDepth 100000
set_option maxHeartbeats 16000000
set_option linter.unusedVariables false
set_option linter.unusedSimpArgs false
namespace Go.Proofs.YtiahkfoojjpaaaaGreatDoor
open Go.RowKit
section
variable {fs:List (Nat×Obj)} {cv cv':List Value} {c c2:du}
theorem Cc (hl:Cv cv) (h6:cv[6]? = some (.string c.name)) (h7:cv[7]? = some (.int .i64 c.file)) (h16:cv[16]? = some (.bool c.all)) (h17:cv[17]? = some (.int .i64 c.number)) (h18:cv[18]? = some (.bool c.print)):FlC cv c=cv:=by
 obtain ⟨x0,x1,x2,x3,x4,x5,x6,x7,x8,x9,x10,x11,x12,x13,x14,x15,x16,x17,x18,x19,x20,x21,x22,rfl⟩:=dR hl.len;have e6:x6=_:=Option.some.inj h6;have e7:x7=_:=Option.some.inj h7;have e16:x16=_:=Option.some.inj h16;have e17:x17=_:=Option.some.inj h17;have e18:x18=_:=Option.some.inj h18;subst e6 e7 e16 e17 e18
 rfl
theorem PatV.same {p:Option Ptn} (h:PatV fs cv p) (h1:cv'[11]? = cv[11]?) (h2:cv'[12]? = cv[12]?):PatV fs cv' p:=by
 cases p with
 | none=>exact ⟨h1.trans h.1,h2.trans h.2⟩
 | some p=>
  obtain ⟨v,t,e1,e2,h⟩:=h;exact ⟨v,t,h1.trans e1,h2.trans e2,h⟩
theorem gq.flc (h:gq fs cv c) (hl:Cv cv) (hc:c2={ c with name:=c2.name,file:=c2.file,all:=c2.all,number:=c2.number,print:=c2.print }):gq fs (FlC cv c2) c2:=by
 have l1:c2.label=c.label:=(congrArg du.label hc).trans rfl;have l2:c2.goal=c.goal:=(congrArg du.goal hc).trans rfl;have l3:c2.status=c.status:=(congrArg du.status hc).trans rfl;have l4:c2.text=c.text:=(congrArg du.text hc).trans rfl;have l5:c2.pat=c.pat:=(congrArg du.pat hc).trans rfl;have l6:c2.new=c.new:=(congrArg du.new hc).trans rfl;have l7:c2.dj=c.dj:=(congrArg du.dj hc).trans rfl;have l8:c2.rk=c.rk:=(congrArg du.rk hc).trans rfl;have l9:c2.yto=c.yto:=(congrArg du.yto hc).trans rfl;clear hc;obtain ⟨x0,x1,x2,x3,x4,x5,x6,x7,x8,x9,x10,x11,x12,x13,x14,x15,x16,x17,x18,x19,x20,x21,x22,rfl⟩:=dR hl.len;refine ⟨?_,?_,rfl,rfl,?_,?_,?_,?_,?_,?_,?_,rfl,rfl,rfl,?_,?_,?_,?_⟩
 .rw [l1];exact h.c4
 .rw [l2];exact h.c5
 .rw [l3];exact h.c8
 .rw [l4];exact h.c9
 .rw [l4];exact h.c10
 .rw [l5];exact h.c11.same rfl rfl
 .rw [l6];exact h.c13
 .rw [l6];exact h.c14
 .rw [l7];exact h.c15
 .rw [l8];exact h.c19
 .rw [l8];exact h.c20
 .rw [l9];exact h.c21
 .rw [l9];exact h.c22
theorem ud.goal (h:ud fs cv c) (n:Nat):ud fs (cv.set 5 (.int .i64 n)) { c with goal:=n }:=by
 have l5:5 < cv.length:=by
  have:=h.rest.c5;rw [List.getElem?_eq_some_iff] at this;exact this.1
 have q:∀ j,j≠5->(cv.set 5 (.int .i64 n))[j]? = cv[j]?:=fun j hj=>Nx (Ne.symm hj);obtain ⟨v0,h0,h0'⟩:=h.c0;obtain ⟨v15,h15,h15'⟩:=h.rest.c15;refine ⟨⟨v0,(q 0 (by omega)).trans h0,h0'⟩,(q 1 (by omega)).trans h.c1,(q 2 (by omega)).trans h.c2,(q 3 (by omega)).trans h.c3,?_⟩;refine ⟨(q 4 (by omega)).trans h.rest.c4,Nv l5,(q 6 (by omega)).trans h.rest.c6,(q 7 (by omega)).trans h.rest.c7,(q 8 (by omega)).trans h.rest.c8,(q 9 (by omega)).trans h.rest.c9,(q 10 (by omega)).trans h.rest.c10,h.rest.c11.same (q 11 (by omega)) (q 12 (by omega)),(q 13 (by omega)).trans h.rest.c13,(q 14 (by omega)).trans h.rest.c14,⟨v15,(q 15 (by omega)).trans h15,h15'⟩,(q 16 (by omega)).trans h.rest.c16,(q 17 (by omega)).trans h.rest.c17,(q 18 (by omega)).trans h.rest.c18,(q 19 (by omega)).trans h.rest.c19,(q 20 (by omega)).trans h.rest.c20,(q 21 (by omega)).trans h.rest.c21,(q 22 (by omega)).trans h.rest.c22⟩
end
theorem jn.names {σ σ':Sst} {r:RdS} {l:List ByteArray} (h:jn σ r) (hn:NmTo σ σ' l):jn σ' { r with names:=l }:=by
 obtain ⟨hr,v,e⟩:=hn;have e1:σ'.cs=σ.cs:=(congrArg Sst.cs e).trans rfl;have e2:σ'.fs=σ.fs:=(congrArg Sst.fs e).trans rfl;refine ⟨by rw [e1];exact h.len,fun i cv c h1 h2=>?_,hr,(congrArg Sst.ranges e).trans h.rg,(congrArg Sst.bs e).trans h.bs,(congrArg Sst.ls e).trans h.ls,(congrArg Sst.gs e).trans h.gs⟩;rw [e1] at h1;rw [e2];exact h.cs i cv c h1 h2
theorem tW {α:Type} (p:α->Bool):∀ l:List α,l.any p=(l.find? p).isSome
 | []=>rfl
 | a::l=>by
  rw [List.any_cons,Ox,tW p l]
  cases p a <;> rfl
section
variable {w0:World} {f b k:Nat} {src:ByteArray} {σ:Sst} {r:RdS} {L:List fZ} {rn x:Nat} {nt:Bool}
theorem gS {e:Nat} {r2:RdS} {c2:du} {R:Sst->List Value->Sst->List Value->Prop} (h:Eb w0 f b src k e σ R)
  (hx:∀ cv σ' cv',Cz cv->Cv cv->R σ cv σ' cv'->cv'.take 4=cv.take 4/\gq σ'.fs cv' c2/\(jn σ r->jn σ' r2)/\MV σ σ'):gZ w0 f b src k σ r (.ok (e,r2,c2)):=by
 intro w cb cv hs hb hl hz hf hsl;refine (h w cb cv hs hb hl hz hf hsl).mono ?_;rintro q w1 ⟨σ',cv',rfl,s1,b1,l1,f1,hR⟩;obtain ⟨x1,x2,x3,x4⟩:=hx cv σ' cv' hz hl hR;exact ⟨rfl,σ',cv',s1,b1,l1,f1,x1,x2,x3,x4⟩
theorem gH {E pl:Nat} (h:OpF w0 f b src k σ E pl):gZ w0 f b src k σ r (.error (E,pl)):=by
 intro w cb cv hs hb hl hz hf hsl;refine (h w cb cv hs hb hl hz hf hsl).mono ?_;rintro q w1 ⟨rfl,hk⟩;exact ⟨rfl,hk⟩
theorem yX:gZ w0 101 b src k σ r (.ok (k,r,dr L rn nt x)):=
 gS ((Dj w0 b src k).at_ σ) (by rintro cv σ' cv' hz hl ⟨rfl,rfl⟩;exact ⟨rfl,dk hz L rn nt x,fun h=>h,⟨rfl,rfl,fun _ h=>h⟩⟩)
theorem Dk (hk:k<=src.size):gZ w0 99 b src k σ r (operE src k r (dr L rn nt 113)):=by
 have hle:=eE hk
 cases h:Jq src 0 255 (blk src k) with
 | error pl=>
  have e:operE src k r (dr L rn nt 113)=.error (4,pl):=by simp only [operE,dr,Nat.reduceEqDiff,if_false,or_self,if_true,h]
  rw [e];exact gH (Dl (rY h))
 | ok p=>
  obtain ⟨e,v⟩:=p;have e1:operE src k r (dr L rn nt 113)=.ok (e,r,{ dr L rn nt 113 with status:=v }):=by simp only [operE,dr,Nat.reduceEqDiff,if_false,or_self,if_true,h]
  rw [e1];refine gS ((GN w0 (rX (by omega) hle h)).at_ σ) ?_;rintro cv σ' cv' hz hl ⟨rfl,rfl⟩;have rz:=dk (fs:=σ'.fs) hz L rn nt 113;obtain ⟨x0,x1,x2,x3,x4,x5,x6,x7,x8,x9,x10,x11,x12,x13,x14,x15,x16,x17,x18,x19,x20,x21,x22,rfl⟩:=dR hl.len;exact ⟨rfl,⟨rz.c4,rz.c5,rz.c6,rz.c7,rfl,rz.c9,rz.c10,rz.c11,rz.c13,rz.c14,rz.c15,rz.c16,rz.c17,rz.c18,rz.c19,rz.c20,rz.c21,rz.c22⟩,fun h=>h,⟨rfl,rfl,fun _ h=>h⟩⟩
theorem J9 (hr:Md σ r) (hk:1<=k) (h8:r.blocks.length<=8) (hcs:r.aH.length<=2000):gZ w0 92 b src k σ r (operE src k r (dr L rn nt 123)):=by
 by_cases h:r.blocks.length=8
 .have e:operE src k r (dr L rn nt 123)=.error (6,k - 1):=by simp only [operE,dr,if_true,h]
  rw [e];exact gH (Kc (by rw [hr.bs];exact h) hk)
 .have e:operE src k r (dr L rn nt 123)=.ok (k,{ r with blocks:=r.blocks++[r.aH.length] },dr L rn nt 123):=by simp only [operE,dr,if_true,h,if_false]
  rw [e];refine gS (op_open (by rw [hr.bs];omega) (by rw [hr.len];exact hcs)) ?_;rintro cv σ' cv' hz hl ⟨⟨v,rfl⟩,rfl⟩;exact ⟨rfl,dk hz L rn nt 123,fun hr=>⟨hr.len,hr.cs,⟨hr.nm.ns,hr.nm.nm⟩,hr.rg,by show σ.bs++_=r.blocks++_;rw [hr.bs,hr.len],hr.ls,hr.gs⟩,⟨rfl,rfl,fun _ h=>h⟩⟩
theorem J8 (hr:Md σ r) (hk:1<=k) (h8:r.blocks.length<=8) (hcs:r.aH.length<=2000) (hbl:∀ i∈r.blocks,i < r.aH.length):gZ w0 93 b src k σ r (operE src k r (dr L rn nt 125)):=by
 cases h:r.blocks.getLast? with
 | none=>
  have e:operE src k r (dr L rn nt 125)=.error (6,k - 1):=by simp only [operE,dr,Nat.reduceEqDiff,if_false,if_true,h]
  rw [e];exact gH (Kb (by rw [hr.bs];exact List.getLast?_eq_none_iff.1 h) hk)
 | some i=>
  have e:operE src k r (dr L rn nt 125)=.ok (k,{ r with blocks:=r.blocks.dropLast,aH:=r.aH.modify i fun d=>{ d with goal:=r.aH.length } },dr L rn nt 125):=by simp only [operE,dr,Nat.reduceEqDiff,if_false,if_true,h]
  rw [e];obtain ⟨l,hl⟩:=List.getLast?_eq_some_iff.1 h;have hi:i < r.aH.length:=hbl i (by rw [hl];simp);have hll:l.length<=8:=by rw [hl,Nn] at h8;omega
  obtain ⟨c,hc⟩:∃ c,σ.cs[i]? = some c:=⟨_,Nk (by rw [hr.len];exact hi)⟩;refine gS (op_shut (hr.bs.trans hl) hc (by rw [hr.len];exact hcs) hll) ?_;rintro cv σ' cv' hz hlv ⟨l',i',c',v,q1,q2,rfl,rfl⟩;rw [hr.bs.trans hl] at q1;obtain ⟨rfl,q3⟩:=List.append_inj' q1 rfl;injection q3 with q3;subst q3;rw [hc] at q2;injection q2 with q2;subst q2;refine ⟨rfl,dk hz L rn nt 125,fun hr=>⟨by simp [hr.len],fun j cv c2 h1 h2=>?_,⟨hr.nm.ns,hr.nm.nm⟩,hr.rg,by show l=r.blocks.dropLast;rw [hl,List.dropLast_concat],hr.ls,hr.gs⟩,⟨rfl,by simp,fun _ h=>h⟩⟩;replace h1:(σ.cs.set i (c.set 5 (.int .i64 (σ.cs.length:Int))))[j]? = some cv:=h1;replace h2:(r.aH.modify i fun d=>{ d with goal:=r.aH.length })[j]? = some c2:=h2;rw [O0] at h2;by_cases hj:i=j
  .subst hj;rw [Nv (by rw [hr.len];exact hi)] at h1;injection h1 with h1;subst h1;obtain ⟨d,hd⟩:∃ d,r.aH[i]? = some d:=⟨_,Nk hi⟩;rw [hd] at h2;simp only [if_true] at h2;injection h2 with h2;subst h2;rw [hr.len];exact (hr.cs i c d hc hd).goal _
  .rw [Nx hj] at h1;simp only [hj,if_false] at h2;exact hr.cs j cv c2 h1 (by simpa using h2)
theorem GO (hr:Md σ r) (hk:k<=src.size) (hcs:r.aH.length<=2000):gZ w0 94 b src k σ r (operE src k r (dr L rn nt 58)):=by
 have hle:=eE hk
 cases h:wdE src (blk src k) (src.size+1) (blk src k) with
 | error pl=>
  have e:operE src k r (dr L rn nt 58)=.error (4,pl):=by simp only [operE,dr,Nat.reduceEqDiff,if_false,if_true,wordE,h]
  rw [e];exact gH (GQ (rp (by omega) hle h))
 | ok e=>
  have hw:wordE src k=.ok (e,src.extract (blk src k) e):=by unfold wordE;rw [h]
  have hx:=jr hk hw;obtain ⟨x,hxe⟩:∃ x,x=src.extract (blk src k) e:=⟨_,rfl⟩;rw [<-hxe] at hw hx
  cases ha:r.labels.any (x == ·.1)
  .have e1:operE src k r (dr L rn nt 58)=.ok (e,{ r with labels:=r.labels++[(x,r.aH.length)] },{ dr L rn nt 58 with label:=x }):=by simp only [operE,dr,Nat.reduceEqDiff,if_false,if_true,hw,ha,OO]
   rw [e1];refine gS (J7 (uk h) hxe.symm (by rw [hr.ls];exact ju x _ 0 0 ha) (by rw [hr.len];exact hcs)) ?_;rintro cv σ' cv' hz hl ⟨rfl,rfl⟩;have rz:=dk (fs:=σ.fs) hz L rn nt 58;obtain ⟨x0,x1,x2,x3,x4,x5,x6,x7,x8,x9,x10,x11,x12,x13,x14,x15,x16,x17,x18,x19,x20,x21,x22,rfl⟩:=dR hl.len;exact ⟨rfl,⟨rfl,rz.c5,rz.c6,rz.c7,rz.c8,rz.c9,rz.c10,rz.c11,rz.c13,rz.c14,rz.c15,rz.c16,rz.c17,rz.c18,rz.c19,rz.c20,rz.c21,rz.c22⟩,fun hr=>⟨hr.len,hr.cs,⟨hr.nm.ns,hr.nm.nm⟩,hr.rg,hr.bs,by show σ.ls++_=r.labels++_;rw [hr.ls,hr.len],hr.gs⟩,⟨rfl,rfl,fun _ h=>h⟩⟩
  .have e1:operE src k r (dr L rn nt 58)=.error (5,e - x.size):=by simp only [operE,dr,Nat.reduceEqDiff,if_false,if_true,hw,ha]
   rw [e1];rw [tW] at ha;obtain ⟨⟨y,n⟩,hy⟩:=Option.isSome_iff_exists.1 ha;obtain ⟨j,hj⟩:=ia x _ 0 0 y n hy;exact gH (GP (uk h) hxe.symm (by omega) (by rw [hr.ls];exact hj))
theorem qy (hx:x=98\/x=116) (hr:Md σ r) (hk:k<=src.size) (hsz:src.size<=2000) (hcs:r.aH.length<=2000):gZ w0 95 b src k σ r (operE src k r (dr L rn nt x)):=by
 have hle:=eE hk;have hle2:=eE hle;have n1:x≠123:=by omega
 have n2:x≠125:=by omega
 have n3:x≠58:=by omega
 cases hw:isW src (blk src k)
 .have e:operE src k r (dr L rn nt x)=.ok (blk src k,{ r with wanted:=r.wanted++[(r.aH.length,blk src k)] },dr L rn nt x):=by
   unfold operE;rw [show (dr L rn nt x).what=x from rfl,Nh n1,Nh n2,Nh n3,Nj hx,hw,Nh (by simp)]
  rw [e];refine gS (Ke hw rfl rfl (by omega) (by rw [hr.len];exact hcs)) ?_;rintro cv σ' cv' hz hl ⟨⟨v,rfl⟩,rfl⟩;have rz:=dk (fs:=σ.fs) hz L rn nt x;obtain ⟨x0,x1,x2,x3,x4,x5,x6,x7,x8,x9,x10,x11,x12,x13,x14,x15,x16,x17,x18,x19,x20,x21,x22,rfl⟩:=dR hl.len;exact ⟨rfl,⟨rfl,rz.c5,rz.c6,rz.c7,rz.c8,rz.c9,rz.c10,rz.c11,rz.c13,rz.c14,rz.c15,rz.c16,rz.c17,rz.c18,rz.c19,rz.c20,rz.c21,rz.c22⟩,fun hr=>⟨hr.len,hr.cs,⟨hr.nm.ns,hr.nm.nm⟩,hr.rg,hr.bs,hr.ls,by show σ.gs++_=r.wanted++_;rw [hr.gs,hr.len]⟩,⟨rfl,rfl,fun _ h=>h⟩⟩
 .cases h:wdE src (blk src (blk src k)) (src.size+1) (blk src (blk src k)) with
  | error pl=>
   have e:operE src k r (dr L rn nt x)=.error (4,pl):=by
    unfold operE;rw [show (dr L rn nt x).what=x from rfl,Nh n1,Nh n2,Nh n3,Nj hx,hw,Nj rfl];unfold wordE;rw [h]
   rw [e];exact gH (Dp hw (rp (by omega) hle2 h))
  | ok e=>
   have hwd:wordE src (blk src k)=.ok (e,src.extract (blk src (blk src k)) e):=by unfold wordE;rw [h]
   have hy:=jr hle hwd;obtain ⟨y,hye⟩:∃ y,y=src.extract (blk src (blk src k)) e:=⟨_,rfl⟩;rw [<-hye] at hwd hy;have e1:operE src k r (dr L rn nt x)=.ok (e,{ r with wanted:=r.wanted++[(r.aH.length,e - y.size)] },{ dr L rn nt x with label:=y }):=by
    unfold operE;rw [show (dr L rn nt x).what=x from rfl,Nh n1,Nh n2,Nh n3,Nj hx,hw,Nj rfl,hwd]
    rfl
   rw [e1];refine gS (Kd (pl:=e - y.size) hw (uk h) hye.symm (by omega) (by omega) (by rw [hr.len];exact hcs)) ?_;rintro cv σ' cv' hz hl ⟨⟨v,rfl⟩,rfl⟩;have rz:=dk (fs:=σ.fs) hz L rn nt x;obtain ⟨x0,x1,x2,x3,x4,x5,x6,x7,x8,x9,x10,x11,x12,x13,x14,x15,x16,x17,x18,x19,x20,x21,x22,rfl⟩:=dR hl.len;exact ⟨rfl,⟨rfl,rz.c5,rz.c6,rz.c7,rz.c8,rz.c9,rz.c10,rz.c11,rz.c13,rz.c14,rz.c15,rz.c16,rz.c17,rz.c18,rz.c19,rz.c20,rz.c21,rz.c22⟩,fun hr=>⟨hr.len,hr.cs,⟨hr.nm.ns,hr.nm.nm⟩,hr.rg,hr.bs,hr.ls,by show σ.gs++_=r.wanted++_;rw [hr.gs,hr.len]⟩,⟨rfl,rfl,fun _ h=>h⟩⟩
theorem rU (hx:x=97\/x=105\/x=99):gZ w0 96 b src k σ r (operE src k r (dr L rn nt x)):=by
 intro w cb cv hs hb hl hz hf hsl;refine (text_o hs hb hl hf).mono ?_;intro q w1 hq
 have e:operE src k r (dr L rn nt x)=(match textE src (src.size+1) (blk src k) [] with
   | .error pl=>.error (4,pl)
   | .ok (e,l)=>.ok (e,r,{ dr L rn nt x with text:=⟨src.extract (blk src k) e,l⟩ })):=by
  unfold operE;rw [show (dr L rn nt x).what=x from rfl,Nh (by omega),Nh (by omega),Nh (by omega),Nh (by omega),Nj hx]
  cases textE src (src.size+1) (blk src k) [] <;> rfl
 rw [e]
 cases ht:textE src (src.size+1) (blk src k) [] with
 | error pl=>
  rw [ht] at hq;exact hq
 | ok p=>
  obtain ⟨e1,l⟩:=p;rw [ht] at hq;obtain ⟨rfl,s1,b1⟩:=hq;refine ⟨rfl,σ,_,s1,b1,(hl.set 9 rfl).set 10 rfl,hf,?_,?_,fun h=>h,⟨rfl,rfl,fun _ h=>h⟩⟩
  .obtain ⟨x0,x1,x2,x3,x4,x5,x6,x7,x8,x9,x10,x11,x12,x13,x14,x15,x16,x17,x18,x19,x20,x21,x22,rfl⟩:=dR hl.len
   rfl
  .have rz:=dk (fs:=σ.fs) hz L rn nt x;obtain ⟨x0,x1,x2,x3,x4,x5,x6,x7,x8,x9,x10,x11,x12,x13,x14,x15,x16,x17,x18,x19,x20,x21,x22,rfl⟩:=dR hl.len;exact ⟨rz.c4,rz.c5,rz.c6,rz.c7,rz.c8,rfl,rfl,rz.c11,rz.c13,rz.c14,rz.c15,rz.c16,rz.c17,rz.c18,rz.c19,rz.c20,rz.c21,rz.c22⟩
theorem MM {w w1:World} {cb e:Nat} {cv:List Value} {c c2:du} {r2:RdS} (hf:FileO w0 b cb src σ cv (e,r2,c2) w1) (hl:Cv cv) {σ0:Sst} (hr:jn σ0 r->jn σ r) (hx:gq σ.fs cv c) (hk:FlOk src k e r r2 c c2) {cv0:List Value} (h4:cv.take 4=cv0.take 4) (hfs:MV σ0 σ):OperR w0 b cb src σ0 cv0 r (e,r2,c2) w1:=by
 obtain ⟨σ',s1,b1,f1,hn⟩:=hf;have e1:σ'.fs=σ.fs:=(congrArg Sst.fs hn.2.choose_spec).trans rfl;refine ⟨σ',_,s1,b1,FlC.len hl,f1,?_,?_,?_,⟨(congrArg Sst.quiet hn.2.choose_spec).trans hfs.qt,(congrArg (fun q:Sst=>q.cs.length) hn.2.choose_spec).trans hfs.cl,fun f hf=>by rw [e1];exact hfs.fx f hf⟩⟩
 .rw [<-h4];obtain ⟨x0,x1,x2,x3,x4,x5,x6,x7,x8,x9,x10,x11,x12,x13,x14,x15,x16,x17,x18,x19,x20,x21,x22,rfl⟩:=dR hl.len
  rfl
 .rw [e1];exact hx.flc hl hk.ceq
 .intro h0;have:=(hr h0).names hn;rw [hk.req];exact this
theorem Ka (hr:Md σ r) (hk:k<=src.size):gZ w0 100 b src k σ r (operE src k r (dr L rn nt 119)):=by
 intro w cb cv hs hb hl hz hf hsl;have rz:=dk (fs:=σ.fs) hz L rn nt 119;have hcc:FlC cv (dr L rn nt 119)=cv:=Cc hl rz.c6 rz.c7 rz.c16 rz.c17 rz.c18;have e:operE src k r (dr L rn nt 119)=fileE src k r (dr L rn nt 119):=by
  unfold operE;rw [show (dr L rn nt 119).what=119 from rfl,Nh (by omega),Nh (by omega),Nh (by omega),Nh (by omega),Nh (by omega),Nh (by omega),Nh (by omega),Nh (by omega),Nj rfl]
 rw [e];refine (MN (c:=dr L rn nt 119) (r:=r) hs (by rw [hcc];exact hb) hl hf hsl hr.nm).mono ?_;intro q w1 hq
 cases hfe:fileE src k r (dr L rn nt 119) with
 | error p=>rw [hfe] at hq;exact hq
 | ok p=>
  obtain ⟨e1,r2,c2⟩:=p;rw [hfe] at hq;exact ⟨hq.1,MM (w:=w) hq.2 hl (fun h=>h) rz (tI hk hfe).1 rfl MV.F0⟩
end
theorem La {w:World} {p G:Nat} (h:w.cell? ⟨p,2,none⟩=some (.int .i64 G)):Calls Tryz.prog 141 #[.pointer (some ⟨p,0,none⟩)] w fun r w'=>r=.returned (.int .i64 G)/\w'=w:=by
 go_enter Tryz.func141,Tryz.ntmps141
 go_wp2_with fail;go_ret;exact ⟨rfl,rfl⟩
theorem CW {fs:List (Nat×Obj)} {cv cv4:List Value} {L:List fZ} {rn:Nat} {nt:Bool} {p:Ptn} {v t hv:Value} {raw:ByteArray} {l:List UInt8} {H:List (Nat×Nat)} (hz:Cz cv) (hl:Cv cv) (h4:cv4=((((cv.set 11 v).set 12 t).set 13 (.string raw)).set 14 (.string (ba l))).set 15 hv) (hp:PtnV fs v t p) (hh:rf fs hv H) :
  gq fs cv4 { dr L rn nt 115 with pat:=some p,new:=⟨raw,l⟩,dj:=H }:=by
 have rz:=dk (fs:=fs) hz L rn nt 115;obtain ⟨x0,x1,x2,x3,x4,x5,x6,x7,x8,x9,x10,x11,x12,x13,x14,x15,x16,x17,x18,x19,x20,x21,x22,rfl⟩:=dR hl.len;subst h4;exact ⟨rz.c4,rz.c5,rz.c6,rz.c7,rz.c8,rz.c9,rz.c10,⟨v,t,rfl,rfl,hp⟩,rfl,rfl,⟨hv,rfl,hh⟩,rz.c16,rz.c17,rz.c18,rz.c19,rz.c20,rz.c21,rz.c22⟩
section
variable {w0:World} {b k:Nat} {src:ByteArray} {σ:Sst} {r:RdS} {L:List fZ} {rn:Nat} {nt:Bool}
theorem yW (hw0:Nm w0) (hr:Md σ r):gZ w0 97 b src k σ r (operE src k r (dr L rn nt 115)):=by
 intro w cb cv hs hb hl hz hf hsl;have hlt:=hs.cur.lt;have hne:cb≠b:=fun e=>hf.bk 0 (by rw [e];rfl);have hsm:=hs.cur.small;have HF:=hid hf;have HR:=hid hr;have HZ:=hid hz;have HSL:=hid hsl;have PG:=oE hs.e (hs.nm hw0).1 (hs.nm hw0).2;obtain ⟨R,hR⟩:∃ R,R=operE src k r (dr L rn nt 115):=⟨_,rfl⟩;rw [<-hR];obtain ⟨c0,hc0⟩:∃ c0,c0=dr L rn nt 115:=⟨_,rfl⟩;have w115:c0.what=115:=by rw [hc0];rfl
 rw [<-hc0] at hR;unfold operE at hR;rw [w115,Nh (by omega),Nh (by omega),Nh (by omega),Nh (by omega),Nh (by omega),Nj rfl] at hR;have HC0:=hid hc0;clear hz hr hsl hc0 w115
 cases h1:patE src k with
 | error q=>
  obtain ⟨E,pl⟩:=q;rw [h1] at hR PG;have HRE:=hid hR;have HPG:=hid PG;clear hR PG;go_enter Tryz.func97,Tryz.ntmps97
  go_wp2_with fail;refine HPG.out.mono ?_;rintro q w1 ⟨rfl,m1⟩;go_wp2_with fail;refine ⟨rfl,?_⟩;rw [HRE.out];exact ⟨rfl,hs.qL m1⟩
 | ok q=>
 obtain ⟨e0,p⟩:=q;have hpe:=yV hsm h1;have hQ:∀ pb w,p.Q pb w->w.cell? ⟨pb,2,none⟩=some (.int .i64 p.G):=fun pb w h=>h.c2;have hG:=hpe.2.2.1.g;rw [h1] at hR PG;dsimp only at hR;have HQ:=hid hQ;have HPE:=hid hpe;have HRE:=hid hR;have HPG:=hid PG;clear hR PG h1 hQ hpe;have z11:cv[11]? = some (.pointer none):=by rw [show 11=4+7 from rfl,HZ.out.at_,HZ.out];rfl
 have z12:cv[12]? = some (.string ⟨#[]⟩):=by rw [show 12=4+8 from rfl,HZ.out.at_,HZ.out];rfl
 have z13:cv[13]? = some (.string ⟨#[]⟩):=by rw [show 13=4+9 from rfl,HZ.out.at_,HZ.out];rfl
 have z14:cv[14]? = some (.string ⟨#[]⟩):=by rw [show 14=4+10 from rfl,HZ.out.at_,HZ.out];rfl
 have z15:cv[15]? = some (.slice none 0 0):=by rw [show 15=4+11 from rfl,HZ.out.at_,HZ.out];rfl
 have hln:=hl.len;have HL:=hid hl;have HS:=hid hs;have HB:=hid hb;clear hs hb hl hf;go_enter Tryz.func97,Tryz.ntmps97
 go_wp2_with fail;refine HPG.out.mono ?_;rintro q w1 ⟨pb,gb,o1,o2,rfl,ho1,ho2,lpb,lgb,brs,c1,m1⟩;have c1:Cur w1 b src e0:=c1;have BRS:=hid brs;clear brs;have S1:=hid (HS.out.move m1 c1);have B1:=hid (HB.out.aj m1.kp (by simpa using hne));have d11:=B1.out.at_ 11 _ z11;have d12:=B1.out.at_ 12 _ z12;have f11:=B1.out.free 11;have f12:=B1.out.free 12;obtain ⟨txt,htx⟩:∃ txt,txt=p.txt:=⟨_,rfl⟩;rw [show ((e0,p):Nat×Ptn).2.txt=txt from htx.symm];have HTX:=hid htx;clear htx;obtain ⟨cv2,hcv2⟩:∃ cv2,cv2=(cv.set 11 (.pointer (some ⟨pb,0,none⟩))).set 12 (.string txt):=⟨_,rfl⟩;have B2:Hid (Bl ((w1.setCell ⟨cb,11,none⟩ (.pointer (some ⟨pb,0,none⟩))).setCell ⟨cb,12,none⟩ (.string txt)) cb cv2):=hid (by rw [hcv2];exact (B1.out.set 11 _ (by omega)).set 12 _ (by rw [NO];omega));have k2:Kp [cb] w1 ((w1.setCell ⟨cb,11,none⟩ (.pointer (some ⟨pb,0,none⟩))).setCell ⟨cb,12,none⟩ (.string txt)):=(Kp.setCell _ _ (by simp)).trans (Kp.setCell _ _ (by simp))
 have S2:=hid (S1.out.other k2 (fun y hy=>by simp at hy;rw [hy];exact HF.out));go_upto_region 1 with fail
 have hcbw:cb < w.heap.size:=HB.out.lt;have p1:pb < w1.heap.size:=lt_of_block ho1;have p2:gb < w1.heap.size:=lt_of_block ho2;have hpc:pb≠cb:=by omega
 have hgc:gb≠cb:=by omega
 have ho1:=(k2.block pb p1 (by simpa using hpc)).trans ho1;have ho2:=(k2.block gb p2 (by simpa using hgc)).trans ho2;have K2:=hid k2;generalize (w1.setCell ⟨cb,11,none⟩ (.pointer (some ⟨pb,0,none⟩))).setCell ⟨cb,12,none⟩ (.string txt)=w2 at *;have q11:cv2[11]? = some (.pointer (some ⟨pb,0,none⟩)):=by rw [hcv2,Nx (by omega),Nv (by omega)]
 have e11:=B2.out.at_ 11 _ q11;have cG:=HQ.out pb w2 (BRS.out w2 ho1 ho2);obtain ⟨G,hGe⟩:∃ G,G=p.G:=⟨_,rfl⟩;rw [<-hGe] at cG hG;have HGE:=hid hGe;clear d11 d12 f11 f12 k2 hGe;go_wp2_with fail;refine (La cG).mono ?_;rintro q w2' ⟨rfl,rfl⟩;have NT:=G7 S2.out.e hG;have hRE:=HRE.out;rw [<-HGE.out] at hRE;clear HRE
 cases h2:newE src G (src.size+1) e0 [] [] with
 | error pl=>
  rw [h2] at hRE NT;have HRE:=hid hRE;have HNT:=hid NT;clear hRE NT h2;go_wp2_with fail;refine HNT.out.mono ?_;rintro q w3 ⟨rfl,m3⟩;go_wp2_with fail;refine ⟨rfl,?_⟩;rw [HRE.out];exact ⟨rfl,S2.out.qL m3⟩
 | ok q=>
 obtain ⟨e1,l,H⟩:=q;have hnle:=rZ h2 ⟨fun q hq=>(by cases hq),List.Pairwise.nil⟩;rw [h2] at hRE NT;dsimp only at hRE;have HRE:=hid hRE;have HNT:=hid NT;have HNL:=hid hnle;clear hRE NT h2 hnle;go_wp2_with fail;refine HNT.out.mono ?_;rintro q w3 ⟨v,rfl,own,c3,m3⟩;have c3:Cur w3 b src e1:=c3;replace own:w3.ownsRow w2'.heap.size 211 2 v H.length (ng H):=own;have S3:=hid (S2.out.move m3 c3);have B3:=hid (B2.out.aj m3.kp (by simpa using hne));have hpb:pb≠b:=by omega
 have hgb:gb≠b:=by omega
 have z2:=K2.out.size;have ho1:=(m3.kp.block pb (by omega) (by simpa using hpb)).trans ho1;have ho2:=(m3.kp.block gb (by omega) (by simpa using hgb)).trans ho2;have q13:cv2[13]? = some (.string ⟨#[]⟩):=by rw [hcv2,Nx (by omega),Nx (by omega)];exact z13
 have q14:cv2[14]? = some (.string ⟨#[]⟩):=by rw [hcv2,Nx (by omega),Nx (by omega)];exact z14
 have q15:cv2[15]? = some (.slice none 0 0):=by rw [hcv2,Nx (by omega),Nx (by omega)];exact z15
 have hln2:cv2.length=23:=by rw [hcv2];simp [hln]
 have OW:=hid own;obtain ⟨A,hc,rfl⟩:=oG own;clear own e11 cG;have d13:=B3.out.at_ 13 _ q13;have d14:=B3.out.at_ 14 _ q14;have d15:=B3.out.at_ 15 _ q15;have f13:=B3.out.free 13;have f14:=B3.out.free 14;have f15:=B3.out.free 15;dsimp only;obtain ⟨raw,hraw⟩:∃ raw,raw=src.extract e0 (e1 - 1):=⟨_,rfl⟩;rw [<-hraw];have HRAW:=hid hraw;clear hraw;obtain ⟨cv4,hcv4⟩:∃ cv4,cv4=((cv2.set 13 (.string raw)).set 14 (.string (ba l))).set 15 (.slice A H.length hc):=⟨_,rfl⟩
 have B4:Hid (Bl (((w3.setCell ⟨cb,13,none⟩ (.string raw)).setCell ⟨cb,14,none⟩ (.string (ba l))).setCell ⟨cb,15,none⟩ (.slice A H.length hc)) cb cv4):=hid (by
  rw [hcv4];exact ((B3.out.set 13 _ (by omega)).set 14 _ (by rw [NO];omega)).set 15 _ (by rw [NO,NO];omega))
 have k4:Kp [cb] w3 (((w3.setCell ⟨cb,13,none⟩ (.string raw)).setCell ⟨cb,14,none⟩ (.string (ba l))).setCell ⟨cb,15,none⟩ (.slice A H.length hc)):=(Kp.setCell _ _ (by simp)).trans ((Kp.setCell _ _ (by simp)).trans (Kp.setCell _ _ (by simp)));have S4:=hid (S3.out.other k4 (fun y hy=>by simp at hy;rw [hy];exact HF.out));go_upto_region 2 with fail
 have z3:=m3.kp.size;have ho1:=(k4.block pb (by omega) (by simpa using hpc)).trans ho1;have ho2:=(k4.block gb (by omega) (by simpa using hgc)).trans ho2;have OW4:=hid (ai OW.out (fun g hg=>k4.block g (az OW.out hg).2 (by rw [Nu];have:=(az OW.out hg).1;omega)));have z4:=k4.size;generalize ((w3.setCell ⟨cb,13,none⟩ (.string raw)).setCell ⟨cb,14,none⟩ (.string (ba l))).setCell ⟨cb,15,none⟩ (.slice A H.length hc)=w4 at *;clear d13 d14 d15 f13 f14 f15 k4;have HL2:Cv cv2:=by rw [hcv2];exact (HL.out.set 11 rfl).set 12 rfl
 have HL4:Hid (Cv cv4):=hid (by rw [hcv4];exact ((HL2.set 13 rfl).set 14 rfl).set 15 rfl);obtain ⟨new,hnew,hfs⟩:∃ new:List (Nat×Obj),(∀ f∈new,w4.heap[f.1]? = some f.2/\w.heap.size<=f.1)/\∀ fs,(∀ f∈new,f∈fs)->(pb,o1)∈fs/\(gb,o2)∈fs/\rf fs (.slice A H.length hc) H:=by
  rcases OW4.out.2 with ⟨q1,q2⟩ | ⟨hb',cap,cur,q1,q2,q3,q4,q5,q6,q7⟩
  .refine ⟨[(pb,o1),(gb,o2)],fun f hf=>?_,fun fs h=>⟨h _ (by simp),h _ (by simp),A,hc,rfl,.inl (NZ q2)⟩⟩;simp only [N8,Oe,or_false] at hf;rcases hf with rfl | rfl
   .exact ⟨ho1,lpb⟩
   .exact ⟨ho2,lgb⟩
  .injection q1 with e1 e2 e3;refine ⟨[(pb,o1),(gb,o2),(hb',.cells cur 211 (0,0))],fun f hf=>?_,fun fs h=>⟨h _ (by simp),h _ (by simp),A,hc,rfl,.inr ⟨hb',cur,e1,h _ (by simp),q7⟩⟩⟩;simp only [N8,Oe,or_false] at hf;rcases hf with rfl | rfl | rfl
   .exact ⟨ho1,lpb⟩
   .exact ⟨ho2,lgb⟩
   .exact ⟨q3,by have:=m1.kp.size;show w.heap.size<=hb';omega⟩
 have S5:=S4.out.uc new (fun f hf=>⟨(hnew f hf).1,(HS.out.dP (hnew f hf).2).lo,(HS.out.dP (hnew f hf).2).bk⟩)
 have F5:Sr.Far w0 b { σ with fs:=new++σ.fs } cb:=⟨HF.out.lo,HF.out.bk,fun f hf=>by
  rcases List.mem_append.1 hf with q | q
  .have:=(hnew f q).2;omega
  .exact HF.out.fx f q⟩
 obtain ⟨i1,i2,i3⟩:=hfs (new++σ.fs) (fun f hf=>OH _ hf)
 have hrest:gq (new++σ.fs) cv4 { dr L rn nt 115 with pat:=some p,new:=⟨raw,l⟩,dj:=H }:=
  CW (hv:=.slice A H.length hc) HZ.out HL.out (by rw [hcv4,hcv2]) ⟨pb,gb,o1,o2,rfl,by rw [HTX.out],i1,i2,BRS.out⟩ i3
 have hrel:jn σ r->jn { σ with fs:=new++σ.fs } r:=fun h=>h.mono (fun f hf=>Ot _ hf);have hcc:FlC cv4 { dr L rn nt 115 with pat:=some p,new:=⟨raw,l⟩,dj:=H }=cv4:=Cc HL4.out hrest.c6 hrest.c7 hrest.c16 hrest.c17 hrest.c18;have FO:=hid (flags_o (cv:=cv4) (c:={ dr L rn nt 115 with pat:=some p,new:=⟨raw,l⟩,dj:=H }) (r:=r) S5 (by rw [hcc];exact B4.out) HL4.out F5 ⟨HSL.out.ns,HSL.out.bs,HSL.out.gs⟩ ⟨HR.out.nm.ns,HR.out.nm.nm⟩ (by show (0:Nat)<=_;omega));have HX:=hid (And.intro hrest hrel);have hRE:=HRE.out;rw [HC0.out,<-HRAW.out] at hRE;clear HRE hfs hnew hrest hrel hcc i1 i2 i3
 have H4:Hid (cv4.take 4=cv.take 4):=hid (by
  rw [hcv4,hcv2];obtain ⟨x0,x1,x2,x3,x4,x5,x6,x7,x8,x9,x10,x11,x12,x13,x14,x15,x16,x17,x18,x19,x20,x21,x22,rfl⟩:=dR HL.out.len
  rfl)
 cases h3:flagsE src (src.size+1) e1 r { dr L rn nt 115 with pat:=some p,new:=⟨raw,l⟩,dj:=H } with
 | error q=>
  obtain ⟨E,pl⟩:=q;rw [h3] at FO;have HRE:=hid (hRE.trans h3);clear hRE h3;go_wp2_with fail;refine FO.out.mono ?_;rintro q w5 ⟨rfl,k5⟩;go_wp2_with fail;refine ⟨rfl,?_⟩;rw [HRE.out];exact ⟨rfl,k5⟩
 | ok q=>
  obtain ⟨e2,r2,c2⟩:=q;have FK:=hid (il HNL.out.2.1 h3);rw [h3] at FO;have HRE:=hid (hRE.trans h3);clear hRE h3;go_wp2_with fail;refine FO.out.mono ?_;rintro q w5 ⟨rfl,hq⟩;have HQ5:=hid hq;clear hq;go_wp2_with fail;refine bodyPost_ret (results_none rfl _ _ _) rfl ?_;rw [HRE.out];exact ⟨rfl,MM (w:=w) HQ5.out HL4.out HX.out.2 HX.out.1 FK.out H4.out ⟨rfl,rfl,fun f hf=>Ot _ hf⟩⟩
end
theorem nX (x:Nat):∀ (l:List (Nat×Nat)) (c i:Nat),l.find? (fun q=>x == q.1)=none->Instr.findNow (.int .u8) (.int .u8 x) (tabE c l) i=some none
 | [],_,_,_=>rfl
 | (y,f)::l,c,i,h=>by
  rw [Ox] at h
  cases hxy:(x == y)
  .rw [hxy] at h;have hn:x≠y:=by simpa using hxy
   have hi:((x:Int) == (y:Int))=false:=by rw [Nr];omega
   rw [tabE];simpa [Instr.findNow,Instr.sameNow,hi,hn] using nX x l (c+1) (i+1) h
  .rw [hxy] at h
   cases h
theorem nW (x:Nat):∀ (l:List (Nat×Nat)) (c i y f:Nat),l.find? (fun q=>x == q.1)=some (y,f)->∃ j,Instr.findNow (.int .u8) (.int .u8 x) (tabE c l) i=some (some (j,.func (.func f) #[] #[]))
 | [],_,_,_,_,h=>by cases h
 | (z,g)::l,c,i,y,f,h=>by
  rw [Ox] at h;rw [tabE]
  cases hxy:(x == z)
  .rw [hxy] at h;have hn:x≠z:=by simpa using hxy
   have hi:((x:Int) == (z:Int))=false:=by rw [Nr];omega
   obtain ⟨j,q⟩:=nW x l (c+1) (i+1) y f h;exact ⟨j,by simpa [Instr.findNow,Instr.sameNow,hi,hn] using q⟩
  .rw [hxy] at h;injection h with h;injection h with h1 h2;subst h2;have hn:x=z:=by simpa using hxy
   subst hn;exact ⟨i,by simp [Instr.findNow,Instr.sameNow]⟩
theorem Gz {x:Nat} (h:js.contains x=false):opsL.find? (fun q=>x == q.1)=none:=by
 rw [List.find?_eq_none];intro q hq e;have e:x=q.1:=by simpa using e
 have:∀ q∈opsL,js.contains q.1=true:=by decide
 rw [e,this q hq] at h
 cases h
section
variable {w0 w:World} {b k:Nat} {src:ByteArray} {σ:Sst} {r:RdS} {L:List fZ} {rn x:Nat} {nt:Bool}
theorem yY (h:x≠123/\x≠125/\x≠58/\¬ (x=98\/x=116)/\¬ (x=97\/x=105\/x=99)/\x≠115/\x≠121/\x≠113/\x≠119):operE src k r (dr L rn nt x)=.ok (k,r,dr L rn nt x):=by
 unfold operE;rw [show (dr L rn nt x).what=x from rfl,Nh h.1,Nh h.2.1,Nh h.2.2.1,Nh h.2.2.2.1,Nh h.2.2.2.2.1,Nh h.2.2.2.2.2.1,Nh h.2.2.2.2.2.2.1,Nh h.2.2.2.2.2.2.2.1,Nh h.2.2.2.2.2.2.2.2]
def OperX (w0:World) (b:Nat) (src:ByteArray) (k:Nat) (r:RdS) (x:Nat) (R:OpE):Prop:=
 ∃ f i,Instr.findNow (.int .u8) (.int .u8 x) (tabE 0 opsL) 0=some (some (i,.func (.func f) #[] #[]))/\Enters f/\∀ σ,Md σ r->gZ w0 f b src k σ r R
theorem lB {f:Nat} {R:OpE} (hf:opsL.find? (fun q=>x == q.1)=some (x,f)) (he:Enters f) (ho:∀ σ,Md σ r->gZ w0 f b src k σ r R):OperX w0 b src k r x R:=by
 obtain ⟨j,hj⟩:=nW x opsL 0 0 x f hf;exact ⟨f,j,hj,he,ho⟩
theorem operN (hf:opsL.find? (fun q=>x == q.1)=some (x,101)) (h:x≠123/\x≠125/\x≠58/\¬ (x=98\/x=116)/\¬ (x=97\/x=105\/x=99)/\x≠115/\x≠121/\x≠113/\x≠119):OperX w0 b src k r x (operE src k r (dr L rn nt x)):=
 lB hf (fun p q w=>by simp [go_sem]) (fun σ _=>by rw [yY h];exact yX)
theorem oper_g (hw0:Nm w0) (hx:js.contains x=true) (hk1:1<=k) (hk:k<=src.size) (hsz:src.size<=2000) (h8:r.blocks.length<=8) (hcs:r.aH.length<=2000) (hbl:∀ i∈r.blocks,i < r.aH.length):OperX w0 b src k r x (operE src k r (dr L rn nt x)):=by
 have hm:x∈js:=by simpa using hx
 simp only [js,N8,Oe,or_false] at hm;rcases hm with rfl | rfl | rfl | rfl | rfl | rfl | rfl | rfl | rfl | rfl | rfl | rfl | rfl | rfl | rfl | rfl | rfl | rfl | rfl | rfl | rfl | rfl | rfl | rfl | rfl
 .exact lB (f:=92) rfl (fun p q w=>by simp [go_sem]) (fun σ h=>J9 h hk1 h8 hcs)
 .exact lB (f:=93) rfl (fun p q w=>by simp [go_sem]) (fun σ h=>J8 h hk1 h8 hcs hbl)
 .exact lB (f:=94) rfl (fun p q w=>by simp [go_sem]) (fun σ h=>GO h hk hcs)
 .exact lB (f:=95) rfl (fun p q w=>by simp [go_sem]) (fun σ h=>qy (.inl rfl) h hk hsz hcs)
 .exact lB (f:=95) rfl (fun p q w=>by simp [go_sem]) (fun σ h=>qy (.inr rfl) h hk hsz hcs)
 .exact lB (f:=96) rfl (fun p q w=>by simp [go_sem]) (fun σ _=>rU (.inl rfl))
 .exact lB (f:=96) rfl (fun p q w=>by simp [go_sem]) (fun σ _=>rU (.inr (.inl rfl)))
 .exact lB (f:=96) rfl (fun p q w=>by simp [go_sem]) (fun σ _=>rU (.inr (.inr rfl)))
 .exact lB (f:=97) rfl (fun p q w=>by simp [go_sem]) (fun σ h=>yW hw0 h)
 .exact lB (f:=98) rfl (fun p q w=>by simp [go_sem]) (fun σ _=>xg)
 .exact lB (f:=99) rfl (fun p q w=>by simp [go_sem]) (fun σ _=>Dk hk)
 .exact lB (f:=100) rfl (fun p q w=>by simp [go_sem]) (fun σ h=>Ka h hk)
 all_goals exact operN rfl (by omega)
theorem Cu {e:Nat} {a:fZ} (hk:k<=src.size) (h:adrE src k=.ok (e,a)):a.A.ok src k e:=by
 unfold adrE at h
 cases hd:isD src k
 .rw [hd,Nh (by simp)] at h
  cases h36:saw src k 36
  .rw [h36,Nh (by simp)] at h
   cases hp:patE src k with
   | error q=>rw [hp] at h;cases h
   | ok q=>
    obtain ⟨e1,p⟩:=q;rw [hp] at h;injection h with h;injection h with h1 h2;subst h1 h2;have h47:saw src k 47=true:=by
     cases h47:saw src k 47
     .unfold patE at hp;rw [h47,Nh (by simp)] at hp
      cases hp
     .rfl
    refine ⟨hd,h36,h47,fun w b hc hw hb hc2=>?_⟩;have:=oE ⟨hc,hc2⟩ hw hb;rw [hp] at this;exact this
  .rw [h36,Nj rfl] at h;injection h with h;injection h with h1 h2;subst h1 h2;exact ⟨hd,h36,rfl⟩
 .rw [hd,Nj rfl] at h
  cases hn:Jq src 1 1000000 k with
  | error q=>rw [hn] at h;cases h
  | ok q=>
   obtain ⟨e1,v⟩:=q;rw [hn] at h;injection h with h;injection h with h1 h2;subst h1 h2;exact ⟨hd,_,rX (by omega) hk hn⟩
theorem adrsE_A {e:Nat} {L:List fZ} (hsz:src.size<=2000) (hk:k<=src.size) (h:adrsE src k=.ok (e,L)):ri src k e (L.map fZ.A):=by
 unfold adrsE at h
 cases hA:isA src k
 .rw [hA,Nh (by simp)] at h;injection h with h;injection h with h1 h2;subst h1 h2;exact ⟨hA,rfl⟩
 .rw [hA,Nj rfl] at h
  cases h1:adrE src k with
  | error q=>rw [h1] at h;cases h
  | ok q=>
   obtain ⟨e1,a⟩:=q;rw [h1] at h;dsimp only at h
   cases h44:saw src e1 44
   .rw [h44,Nh (by simp)] at h;injection h with h;injection h with h2 h3;subst h2 h3;exact ⟨Cu hk h1,h44⟩
   .rw [h44,Nj rfl] at h
    cases h2:adrE src (e1+1) with
    | error q=>rw [h2] at h;cases h
    | ok q=>
     obtain ⟨e2,a2⟩:=q;rw [h2] at h;injection h with h;injection h with h3 h4;subst h3 h4;exact ⟨e1,Cu hk h1,h44,Cu (by have:=aM h44;omega) h2⟩
theorem ym {E pl:Nat} (hr:rh w b src k) (hw:Nm w) (hbg:b≠4) (h:adrE src k=.error (E,pl)) :
  Calls Tryz.prog 168 #[.pointer (some ⟨b,0,none⟩)] w fun r w'=>r=gX E pl/\Mv b w w':=by
 unfold adrE at h;have hlt:=hr.cur.lt;have kA:=Kp.alloc [] w (.cells (jj 0 0).toArray 132);have mA:Mv b w (w.alloc (.cells (jj 0 0).toArray 132)):=Mv.alloc hlt _;have hA:=hid (hr.move mA (hr.cur.aj kA (by simp)));have HW:=hid hw;clear hw
 cases hd:isD src k
 .rw [hd,Nh (by simp)] at h
  cases h36:saw src k 36
  .rw [h36,Nh (by simp)] at h
   cases hp:patE src k with
   | ok q=>rw [hp] at h;cases h
   | error q=>
    rw [hp] at h;injection h with h;subst h;have HP:=hid hp;have HD:=hid hd;have H36:=hid h36;clear hp hd h36;go_enter Tryz.func168,Tryz.ntmps168
    go_wp2_with fail;refine (dz hA.out.cur HD.out).mono ?_;rintro r w1 ⟨rfl,h1,m1⟩;go_wp2_with fail;refine (aX 36 h1 H36.out).mono ?_;rintro r w2 ⟨rfl,h2,m2⟩;have h2:Cur w2 b src k:=h2;have PG:=oE (hA.out.move (m1.trans m2) h2) (HW.out.aj (mA.trans (m1.trans m2)).kp (by simpa using Ne.symm hbg)) hbg;rw [HP.out] at PG;have HPG:=hid PG;clear PG;go_wp2_with fail;refine HPG.out.mono ?_;rintro r w3 ⟨rfl,m3⟩;go_wp2_with fail;exact ⟨rfl,rfl,mA.trans (m1.trans (m2.trans m3))⟩
  .rw [h36,Nj rfl] at h
   cases h
 .rw [hd,Nj rfl] at h
  cases hn:Jq src 1 1000000 k with
  | ok q=>rw [hn] at h;cases h
  | error q=>
   rw [hn] at h;injection h with h;injection h with h1 h2;subst h1 h2;have HN:=hid hn;have HD:=hid hd;clear hn hd;go_enter Tryz.func168,Tryz.ntmps168
   go_wp2_with fail;refine (dz hA.out.cur HD.out).mono ?_;rintro r w1 ⟨rfl,h1,m1⟩;have NS:=num_s (lo:=1) (hi:=1000000) (by omega) (hA.out.move m1 h1);rw [HN.out] at NS;have HNS:=hid NS;clear NS;go_wp2_with fail;refine HNS.out.mono ?_;rintro r w3 ⟨rfl,m3⟩;go_wp2_with fail;exact ⟨rfl,rfl,mA.trans (m1.trans m3)⟩
theorem Ai {E pl:Nat} (hs:Sr w0 w b src k σ) (hw0:Nm w0) (h:adrsE src k=.error (E,pl)) :
  Calls Tryz.prog 151 #[.pointer (some ⟨b,0,none⟩)] w fun r w'=>r=gX E pl/\Kp [] w0 w':=by
 have hk:=hs.cur.le;have hbg:=(hs.nm hw0).2;have HW:=hid (hs.nm hw0).1;have hE:=hid hs.e;have HS:=hid hs;clear hs;unfold adrsE at h
 cases hA:isA src k
 .rw [hA,Nh (by simp)] at h
  cases h
 .rw [hA,Nj rfl] at h;have HA:=hid hA;clear hA
  cases h1:adrE src k with
  | error q=>
   rw [h1] at h;injection h with h;subst h;have H1:=hid h1;clear h1;go_enter Tryz.func151,Tryz.ntmps151
   go_wp2_with fail;refine (ew hE.out.cur HA.out).mono ?_;rintro r w1 ⟨rfl,h1,m1⟩;go_wp2_with fail;refine (ym (hE.out.move m1 h1) (HW.out.aj m1.kp (by simpa using Ne.symm hbg)) hbg H1.out).mono ?_;rintro r w2 ⟨rfl,m2⟩;go_wp2_with fail;exact ⟨rfl,rfl,HS.out.qL (m1.trans m2)⟩
  | ok q=>
   obtain ⟨e1,a⟩:=q;rw [h1] at h;dsimp only at h;have HOK:=hid (Cu hk h1);clear h1
   cases h44:saw src e1 44
   .rw [h44,Nh (by simp)] at h
    cases h
   .rw [h44,Nj rfl] at h;have H44:=hid h44;clear h44
    cases h2:adrE src (e1+1) with
    | ok q=>rw [h2] at h;cases h
    | error q=>
     rw [h2] at h;injection h with h;subst h;have H2:=hid h2;clear h2;go_enter Tryz.func151,Tryz.ntmps151
     go_wp2_with fail;refine (ew hE.out.cur HA.out).mono ?_;rintro r w1 ⟨rfl,h1,m1⟩;go_wp2_with fail;refine (jR h1 (HW.out.aj m1.kp (by simpa using Ne.symm hbg)) hbg (hE.out.move m1 h1).c2 HOK.out).mono ?_;rintro r w2 ⟨va,rfl,hva,h2,m2⟩;obtain ⟨x0,x1,x2,x3,rfl,_⟩:=hva.four;clear hva;have E2:=hid (hE.out.move (m1.trans m2) h2);have mA:Mv b w2 (w2.alloc (.cells #[x0,x1,x2,x3] 132)):=Mv.alloc h2.lt _;have E3:=hid (E2.out.move mA (h2.aj (Kp.alloc [] w2 _) (by simp)));go_wp2_with fail;refine (aX 44 E3.out.cur H44.out).mono ?_;rintro r w3 ⟨rfl,h3,m3⟩;have h3:Cur w3 b src (e1+1):=h3;have m13:=(m1.trans m2).trans (mA.trans m3);go_wp2_with fail;refine (ym (hE.out.move m13 h3) (HW.out.aj m13.kp (by simpa using Ne.symm hbg)) hbg H2.out).mono ?_;rintro r w4 ⟨rfl,m4⟩;go_wp2_with fail;exact ⟨rfl,rfl,HS.out.qL (m13.trans m4)⟩
end
section
variable {w0 w:World} {b k:Nat} {src:ByteArray} {σ:Sst} {r:RdS}
def Me (r1 r2:RdS) (c:du) (σ:Sst) (cv:List Value) (σ':Sst) (cv':List Value):Prop:=cv'.take 4=cv.take 4/\gq σ'.fs cv' c/\(jn σ r1->jn σ' r2)/\MV σ σ'
theorem gZ.at_ {f e:Nat} {r2:RdS} {c:du} (h:gZ w0 f b src k σ r (.ok (e,r2,c))):Eb w0 f b src k e σ (Me r r2 c):=by
 intro w cb cv hs hb hl hz hf hsl;refine (h w cb cv hs hb hl hz hf hsl).mono ?_;rintro q w1 ⟨rfl,σ',cv',s1,b1,l1,f1,x1,x2,x3,x4⟩;exact ⟨σ',cv',rfl,s1,b1,l1,f1,x1,x2,x3,x4⟩
theorem gZ.fails {f E pl:Nat} (h:gZ w0 f b src k σ r (.error (E,pl))):OpF w0 f b src k σ E pl:=by
 intro w cb cv hs hb hl hz hf hsl;refine (h w cb cv hs hb hl hz hf hsl).mono ?_;rintro q w1 ⟨rfl,hk⟩;exact ⟨rfl,hk⟩
theorem EH {cv cv':List Value} (h:cv'.take 4=cv.take 4) {j:Nat} (hj:j < 4):cv'[j]? = cv[j]?:=by
 have:=congrArg (fun l=>l[j]?) h;simpa [Oo,hj] using this
def CmdO (w0:World) (b:Nat) (src:ByteArray) (σ:Sst) (q:Nat×RdS) (w':World):Prop:=∃ σ',Sr w0 w' b src q.1 σ'/\jn σ' q.2/\σ'.quiet=σ.quiet
theorem Cn {w':World} {k5:Nat} {L:List fZ} {nt:Bool} {x:Nat} {r1 r2:RdS} {c:du} (h:Av w0 w' b src k5 σ (L.map fZ.A) nt x (Me r1 r2 c)) (hr:jn σ r) (h1:r1=if L.length=2 then { r with ranges:=r.ranges+1 } else r)
  (ca:c.gL=L) (cr:c.range=if L.length=2 then r.ranges else 0) (cn:c.neg=nt) (cw:c.what=x):CmdO w0 b src σ (k5,{ r2 with aH:=r2.aH++[c] }) w':=by
 obtain ⟨A,cc,fs,σ',cv',v',hA,hfs,⟨h4,hrest,hrel,hon⟩,s'⟩:=h;rw [NU] at hA h4 hrel hon;have hS:jn { σ with ranges:=if L.length=2 then σ.ranges+1 else σ.ranges,fs:=fs } r1:=by
  have q:=hr.mono hfs;rw [h1];by_cases h2:L.length=2
  .rw [Nj h2,Nj h2];exact ⟨q.len,q.cs,⟨q.nm.ns,q.nm.nm⟩,by show σ.ranges+1=r.ranges+1;rw [hr.rg],q.bs,q.ls,q.gs⟩
  .rw [Nh h2,Nh h2];exact ⟨q.len,q.cs,⟨q.nm.ns,q.nm.nm⟩,q.rg,q.bs,q.ls,q.gs⟩
 have hS':=hrel hS;refine ⟨_,s',⟨?_,?_,⟨hS'.nm.ns,hS'.nm.nm⟩,hS'.rg,hS'.bs,hS'.ls,hS'.gs⟩,hon.qt⟩
 .show (σ'.cs++[cv']).length=(r2.aH++[c]).length;rw [Nn,Nn,hS'.len]
  rfl
 .intro i d dc q1 q2;replace q1:(σ'.cs++[cv'])[i]? = some d:=q1;replace q2:(r2.aH++[c])[i]? = some dc:=q2;by_cases hi:i < σ'.cs.length
  .rw [N3 hi] at q1;rw [N3 (by rw [<-hS'.len];exact hi)] at q2;exact hS'.cs i d dc q1 q2
  .have hi':i=σ'.cs.length:=by
    have:=(List.getElem?_eq_some_iff.1 q1).1;simp at this;omega
   subst hi';rw [List.getElem?_concat_length] at q1;rw [hS'.len,List.getElem?_concat_length] at q2;injection q1 with q1;injection q2 with q2;subst q1 q2;refine ⟨⟨.slice A L.length cc,(EH h4 (by omega)).trans rfl,by rw [ca];exact hA.mono hon.fx⟩,(EH h4 (by omega)).trans ?_,(EH h4 (by omega)).trans (by rw [cn];rfl),(EH h4 (by omega)).trans (by rw [cw];rfl),hrest⟩;rw [cr];by_cases h2:L.length=2
   .rw [Nj h2,Nj h2,<-hr.rg]
    rfl
   .rw [Nh h2,Nh h2]
    rfl
theorem IA (hs:Sr w0 w b src k σ) (hw0:Nm w0) (hr:jn σ r) (hk:yr r k) :
  Calls Tryz.prog 105 #[.pointer (some ⟨b,0,none⟩)] w (OpO (cmdE src k r) w0 (CmdO w0 b src σ)):=by
 have hsm:=hs.cur.small;have hle:=hs.cur.le;have hn:σ.cs.length<=2000:=by rw [hr.len];have:=hk.cl;omega
 have hrg:σ.ranges<=2000:=by rw [hr.rg];have:=hk.rl;omega
 have hsl:Small σ 2000:=⟨by rw [hr.nm.ns];have:=hk.nl;omega,by rw [hr.bs];have:=hk.b8;omega,by rw [hr.gs];have:=hk.wl;omega⟩;unfold cmdE
 cases hA:adrsE src k with
 | error q=>
  obtain ⟨E,pl⟩:=q;exact IC (P:=fun _=>True) (fun w σ hs=>Ai hs hw0 hA) w σ hs hn hrg hsl trivial
 | ok q=>
  obtain ⟨k1,L⟩:=q;have hL:=adrsE_A hsm hle hA;have hLe:=Cs hsm hle hA;have hb1:=eE hLe.2.1;dsimp only;generalize hnt:saw src (blk src k1) 33=nt;have hN:(nt=false/\saw src (blk src k1) 33=false/\(if nt=true then blk src (blk src k1+1) else blk src k1)=blk src k1)\/(nt=true/\saw src (blk src k1) 33=true/\(if nt=true then blk src (blk src k1+1) else blk src k1)=blk src (blk src k1+1)):=by
   cases nt
   .exact .inl ⟨rfl,hnt,rfl⟩
   .exact .inr ⟨rfl,hnt,rfl⟩
  have h3s:(if nt=true then blk src (blk src k1+1) else blk src k1)<=src.size:=by
   cases nt
   .exact hb1
   .have:=aM hnt;exact eE (by omega)
  generalize (if nt=true then blk src (blk src k1+1) else blk src k1)=k3 at hN h3s ⊢;by_cases h3:k3 < src.size
  .rw [dif_pos h3];generalize hx:(src[k3]'h3).toNat=x
   cases hw:js.contains x
   .rw [Nj rfl];exact jL (P:=fun _=>True) hw0 hL hN (fun σ _ r fs=>Er h3 hx (nX x _ 0 0 (Gz hw))) w σ hs hn hrg hsl trivial
   .rw [Nh (by simp)];generalize hr1:(if L.length=2 then { r with ranges:=r.ranges+1 } else r)=r1;have e1:r1.aH=r.aH/\r1.names=r.names/\r1.blocks=r.blocks/\r1.labels=r.labels/\r1.wanted=r.wanted:=by
     rw [<-hr1];split <;> exact ⟨rfl,rfl,rfl,rfl,rfl⟩
    generalize hrn:(if L.length=2 then r.ranges else 0)=rn;obtain ⟨f,i,ht,hce,hop⟩:=oper_g (r:=r1) (L:=L) (rn:=rn) (nt:=nt) (b:=b) (k:=k3+1) hw0 hw (by omega) (by omega) hsm (by rw [e1.2.2.1];exact hk.b8) (by rw [e1.1];have:=hk.cl;omega) (by rw [e1.1,e1.2.2.1];exact hk.bl);by_cases hbad:(x=125\/x=58)/\(nt=true\/L≠[])
    .rw [Nj hbad];refine jL (P:=fun _=>True) hw0 hL hN (fun σ _ r fs=>Es h3 hx ht hbad.1 (hbad.2.imp_right fun q=>?_)) w σ hs hn hrg hsl trivial;rw [NU];exact List.length_pos_iff.2 q
    .rw [Nh hbad];have hbare:(x=125\/x=58)->L.map fZ.A=[]/\nt=false:=fun q=>by
      have q2:=not_or.1 (fun q3=>hbad ⟨q,q3⟩);have q4:L=[]:=by
       cases L with
       | nil=>rfl
       | cons a l=>exact absurd (List.cons_ne_nil a l) q2.2
      subst q4;exact ⟨rfl,by simpa using q2.1⟩
     have hW:∀ rr fs,Md { σ with ranges:=rr,fs:=fs } r1:=fun rr fs=>⟨by rw [e1.1];exact hr.len,⟨by rw [e1.2.1];exact hr.nm.ns,by rw [e1.2.1];exact hr.nm.nm⟩,by rw [e1.2.2.1];exact hr.bs,by rw [e1.2.2.2.1];exact hr.ls,by rw [e1.2.2.2.2];exact hr.gs⟩
     cases ho:operE src (k3+1) r1 (dr L rn nt x) with
     | error q=>
      obtain ⟨E,pl⟩:=q;rw [ho] at hop;refine jL (P:=fun σ1=>σ1=σ) hw0 hL hN (fun σ1 hσ1 rr fs=>?_) w σ hs hn hrg hsl rfl;subst hσ1;exact what_op h3 hx ht (fun q=>⟨by rw [(hbare q).1];rfl,(hbare q).2⟩) (hop _ (hW rr fs)).fails hce
     | ok q=>
      obtain ⟨e,r2,c⟩:=q;have hok:=Bs hsm (by omega) ho;rw [ho] at hop;dsimp only;have hR:∀ (σ:Sst) (cv:List Value) (σ':Sst) (cv':List Value),Me r1 r2 c σ cv σ' cv'->cv'[3]? = cv[3]?/\σ'.cs.length=σ.cs.length:=fun σ cv σ' cv' q=>⟨EH q.1 (by omega),q.2.2.2.cl⟩
      have hat:∀ rr fs,Eb w0 f b src (k3+1) e { σ with ranges:=rr,fs:=fs } (Me r1 r2 c):=fun rr fs=>(hop _ (hW rr fs)).at_;by_cases h123:x=123
      .rw [Nj h123];refine (xW hs hw0 hL hN h3 hx ht hbare hat hce hR (.inl ⟨h123,rfl⟩) hn hrg hsl).mono ?_;rintro q w1 ⟨rfl,h⟩;exact ⟨rfl,Cn h hr hr1.symm hok.ca (by rw [hok.cr,<-hrn];rfl) hok.cn hok.cw⟩
      .rw [Nh h123]
       cases hm:ig src (blk src e)
       .rw [Nh (by simp)];refine IB (P:=fun σ1=>σ1=σ) hw0 hL hN (by unfold saw;rw [dif_pos h3,hx];simp) ht hbare (fun σ1 hσ1 rr fs=>?_) hce hR ⟨h123,hm⟩ w σ hs hn hrg hsl rfl;subst hσ1;exact hat rr fs
       .rw [Nj rfl];refine (xW hs hw0 hL hN h3 hx ht hbare hat hce hR (.inr ⟨h123,hm,rfl⟩) hn hrg hsl).mono ?_;rintro q w1 ⟨rfl,h⟩;exact ⟨rfl,Cn h hr hr1.symm hok.ca (by rw [hok.cr,<-hrn];rfl) hok.cn hok.cw⟩
  .rw [dif_neg h3];exact jL (P:=fun _=>True) hw0 hL hN (fun σ _ r fs=>Ju (by omega)) w σ hs hn hrg hsl trivial
end
end Go.Proofs.YtiahkfoojjpaaaaGreatDoor
