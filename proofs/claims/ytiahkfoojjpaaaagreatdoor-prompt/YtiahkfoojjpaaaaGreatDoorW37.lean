/- What the claim needs of: VK. -/
import Derived.Test.YtiahkfoojjpaaaaGreatDoorW36
import Derived.Test.YtiahkfoojjpaaaaGreatDoorW35
set_option maxRecDepth 100000
set_option maxHeartbeats 16000000
set_option linter.unusedVariables false
set_option linter.unusedSimpArgs false
namespace Go.Proofs.YtiahkfoojjpaaaaGreatDoor
open Go.RowKit
structure HoOk (H:List (Nat×Nat)) (n G:Nat):Prop where
 le:∀ h∈H,h.1<=n/\h.2<=G
 pw:H.Pairwise (fun a b=>a.1<=b.1)
structure gA (nn rr:Nat) (c:dz):Prop where
 adr:c.gQ.length<=2
 pts:∀ p,gi.pat p∈c.gQ->rE p.G p.x
 nums:∀ n,gi.num n∈c.gQ->n<=1000000
 rng:c.gQ.length=2->c.range < rr
 wh:jx.contains c.what=true
 fl:(c.what=119\/c.name.size≠0)->c.file < nn
 st:c.status<=255
 nb:c.number<=1000000
 pt:∀ p,c.pat=some p->rE p.G p.x/\HoOk c.dm c.new.plain.length p.G
 sp:c.what=115->c.pat≠none
 tx:c.text.plain.length<=2000
 nw:c.new.plain.length<=2000
 nh:c.dm.length<=2000
 yl:c.rL.plain.length=c.yto.plain.length
 yy:c.rL.plain.length<=2000
theorem gA.mono {nn rr nn' rr':Nat} {c:dz} (h:gA nn rr c) (h1:nn<=nn') (h2:rr<=rr'):gA nn' rr' c:=
 ⟨h.adr,h.pts,h.nums,fun q=>by have:=h.rng q;omega,h.wh,fun q=>by have:=h.fl q;omega,h.st,h.nb,h.pt,h.sp,h.tx,h.nw,h.nh,h.yl,h.yy⟩
theorem gA.goal {nn rr:Nat} {c:dz} (h:gA nn rr c) (g:Nat):gA nn rr { c with goal:=g }:=
 ⟨h.adr,h.pts,h.nums,h.rng,h.wh,h.fl,h.st,h.nb,h.pt,h.sp,h.tx,h.nw,h.nh,h.yl,h.yy⟩
section
variable {s:ByteArray}
theorem tW:∀ {n k:Nat} {acc:List UInt8} {e:Nat} {l:List UInt8},pZ s n k acc=.ok (e,l)->k < e/\e<=s.size/\l.length+k+1<=acc.length+e
 | 0,_,_,_,_,h=>by cases h
 | n+1,k,acc,e,l,h=>by
  unfold pZ at h;split at h
  .rename_i hk;split at h
   .injection h with h;injection h with h1 h2;subst h1 h2;omega
   .split at h
    .cases h
    .rename_i l1 c hp;have:=gk hp;split at h
     .cases h
     .have:=tW h;simp at this;omega
  .cases h
theorem MS {m:Nat}:∀ {n k:Nat} {acc:List UInt8} {e:Nat} {l:List UInt8},toE s m n k acc=.ok (e,l)->acc.length<=m->k < e/\e<=s.size/\l.length=m
 | 0,_,_,_,_,h,_=>by cases h
 | n+1,k,acc,e,l,h,ha=>by
  unfold toE at h;split at h
  .rename_i hk;split at h
   .split at h
    .cases h
    .injection h with h;injection h with h1 h2;subst h1 h2;omega
   .split at h
    .cases h
    .split at h
     .cases h
     .rename_i l1 c hp;have:=gk hp;have:=MS h (by simp;omega);omega
  .cases h
theorem II {G k l g:Nat} (h:xV s G k=some (l,g)):k < l/\l<=s.size/\g<=G:=by
 unfold xV at h;split at h
 .rename_i h38;injection h with h;injection h with h1 h2;have:=aN h38;omega
 .split at h
  .split at h
   .split at h
    .injection h with h;injection h with h1 h2;omega
    .cases h
   .cases h
  .cases h
theorem tI {G:Nat}:∀ {n k:Nat} {acc:List UInt8} {hs:List (Nat×Nat)} {e:Nat} {l:List UInt8} {H:List (Nat×Nat)},newE s G n k acc hs=.ok (e,l,H)->HoOk hs acc.length G->k < e/\e<=s.size/\l.length+H.length+k+1<=acc.length+hs.length+e/\HoOk H l.length G
 | 0,_,_,_,_,_,_,h,_=>by cases h
 | n+1,k,acc,hs,e,l,H,h,ho=>by
  unfold newE at h;split at h
  .rename_i hk;split at h
   .injection h with h;injection h with h1 h2;injection h2 with h2 h3;subst h1 h2 h3;exact ⟨by omega,by omega,by omega,ho⟩
   .split at h
    .rename_i l1 g hh;have h1:=II hh
     have ih:=tI h (by
      refine ⟨fun x hx=>?_,?_⟩
      .rcases List.mem_append.1 hx with q | q
       .exact ho.le x q
       .simp at q;subst q;exact ⟨Od _,h1.2.2⟩
      .rw [List.pairwise_append];refine ⟨ho.pw,by simp,fun a ha b hb=>?_⟩;simp at hb;subst hb
       exact (ho.le a ha).1)
     simp at ih;exact ⟨by omega,by omega,by omega,ih.2.2.2⟩
    .split at h
     .cases h
     .rename_i l1 c hp;have h1:=gk hp
      have ih:=tI h (by
       refine ⟨fun x hx=>?_,ho.pw⟩;have:=ho.le x hx;simp
       omega)
      simp at ih;exact ⟨by omega,by omega,by omega,ih.2.2.2⟩
  .cases h
theorem Bo:∀ {n k:Nat} {acc:List UInt8} {e:Nat} {l:List UInt8},k<=s.size->textE s n k acc=.ok (e,l)->k<=e/\e<=s.size/\l.length+k<=acc.length+e
 | 0,_,_,_,_,_,h=>by cases h
 | n+1,k,acc,e,l,hk0,h=>by
  unfold textE at h;split at h
  .rename_i hk;split at h
   .cases h
   .rename_i l1 c hp;have:=gk hp;have:=Bo (by omega) h;simp at this;omega
  .injection h with h;injection h with h1 h2;subst h1 h2;omega
theorem Hh:∀ {n k e:Nat},ptE s n k=.ok e->k < e/\e<=s.size
 | 0,_,_,h=>by cases h
 | n+1,k,e,h=>by
  unfold ptE at h;split at h
  .split at h
   .injection h with h;omega
   .split at h
    .split at h
     .have:=Hh h;omega
     .cases h
    .have:=Hh h;omega
  .cases h
theorem zH {k e:Nat} {p:Ptn} (hsz:s.size<=2000) (h:patE s k=.ok (e,p)):k+1 < e/\e<=s.size/\rE p.G p.x/\p.txt=s.extract (k+1) (e - 1)/\saw s k 47=true:=by
 unfold patE at h;split at h
 .rename_i h47;have:=aN h47;split at h
  .cases h
  .rename_i e1 he;have h1:=Hh he;have hg:=zz (src:=s.extract 0 (e1 - 1)) (fr:=k+1) (by simp;omega) (by simp;omega);split at h
   .cases h
   .rename_i G x hr;rw [hr] at hg;injection h with h;injection h with h2 h3;subst h2 h3;exact ⟨h1.1,h1.2,hg.1,rfl,h47⟩
 .cases h
theorem zR {lo hi k e x:Nat} (hk:k<=s.size) (h:JY s lo hi k=.ok (e,x)):k<=e/\e<=s.size/\x<=hi/\(isD s k=true->k < e/\lo<=x):=by
 have:=zM hk (Og hi) h;exact ⟨this.1,this.2.1,this.2.2.1,this.2.2.2 (by omega)⟩
theorem jw {k e:Nat} {x:ByteArray} (hk:k<=s.size) (h:wordE s k=.ok (e,x)):blk s k < e/\k < e/\e<=s.size/\e<=blk s k+8/\x=s.extract (blk s k) e/\blk s k+x.size=e:=by
 unfold wordE at h;split at h
 .cases h
 .rename_i e1 he;injection h with h;injection h with h1 h2;subst h1 h2;have:=ru s k;have:=MR (eF hk) he;have hx:(s.extract (blk s k) e1).size=e1 - blk s k:=by simp;omega
  have h3:=this.2.2 (Od _);exact ⟨h3.1,by omega,this.2.1,h3.2 (by omega),rfl,by rw [hx];omega⟩
theorem JK {k e:Nat} {a:gi} (hsz:s.size<=2000) (hk:k<=s.size) (h:adrE s k=.ok (e,a)):k < e/\e<=s.size/\(∀ p,a=.pat p->rE p.G p.x)/\∀ n,a=.num n->n<=1000000:=by
 unfold adrE at h;split at h
 .rename_i hd;split at h
  .cases h
  .rename_i e1 v hn;injection h with h;injection h with h1 h2;subst h1 h2;have:=zR hk hn;exact ⟨(this.2.2.2 hd).1,this.2.1,fun p e=>(by cases e),fun n e=>(by injection e with e;omega)⟩
 .split at h
  .rename_i h36;injection h with h;injection h with h1 h2;subst h1 h2;have:=aN h36;exact ⟨by omega,by omega,fun p e=>(by cases e),fun n e=>(by cases e)⟩
  .split at h
   .cases h
   .rename_i e1 p hp;injection h with h;injection h with h1 h2;subst h1 h2;have:=zH hsz hp;exact ⟨by omega,this.2.1,fun q e=>(by injection e with e;subst e;exact this.2.2.1),fun n e=>(by cases e)⟩
theorem Dc {k e:Nat} {L:List gi} (hsz:s.size<=2000) (hk:k<=s.size) (h:adrsE s k=.ok (e,L)):k<=e/\e<=s.size/\L.length<=2/\(∀ p,gi.pat p∈L->rE p.G p.x)/\∀ n,gi.num n∈L->n<=1000000:=by
 unfold adrsE at h;split at h
 .split at h
  .cases h
  .rename_i e1 a ha;have h1:=JK hsz hk ha;split at h
   .rename_i h44;have:=aN h44;split at h
    .cases h
    .rename_i e2 b hb;injection h with h;injection h with h2 h3;subst h2 h3;have h4:=JK hsz (by omega) hb;refine ⟨by omega,h4.2.1,Od _,fun p hp=>?_,fun n hn=>?_⟩
     .simp at hp;rcases hp with q | q
      .exact h1.2.2.1 p q.symm
      .exact h4.2.2.1 p q.symm
     .simp at hn;rcases hn with q | q
      .exact h1.2.2.2 n q.symm
      .exact h4.2.2.2 n q.symm
   .injection h with h;injection h with h2 h3;subst h2 h3;refine ⟨by omega,h1.2.1,by simp,fun p hp=>?_,fun n hn=>?_⟩
    .simp at hp;exact h1.2.2.1 p hp.symm
    .simp at hn;exact h1.2.2.2 n hn.symm
 .injection h with h;injection h with h2 h3;subst h2 h3;exact ⟨Od _,hk,by simp,fun p hp=>(by simp at hp),fun n hn=>(by simp at hn)⟩
structure FlOk (s:ByteArray) (k e:Nat) (r r2:RdS) (c c2:dz):Prop where
 ke:k<=e
 es:e<=s.size
 req:r2={ r with names:=r2.names }
 n1:r.names.length<=r2.names.length
 n2:r2.names.length<=r.names.length+1
 ceq:c2={ c with name:=c2.name,file:=c2.file,all:=c2.all,number:=c2.number,print:=c2.print }
 nb:c.number<=1000000->c2.number<=1000000
 fl:(c2.name=c.name/\c2.file=c.file)\/c2.file < r2.names.length
theorem ua {k e:Nat} {r r2:RdS} {c c2:dz} (hk:k<=s.size) (h:fileE s k r c=.ok (e,r2,c2)):FlOk s k e r r2 c c2/\c2.file < r2.names.length/\k < e:=by
 unfold fileE at h;split at h
 .cases h
 .rename_i e1 x hw;have h1:=jw hk hw;split at h
  .rename_i i hi;injection h with h;injection h with h2 h3;injection h3 with h3 h4;subst h2 h3 h4;have hlt:i < r.names.length:=by
    obtain ⟨q,_⟩:=List.findIdx?_eq_some_iff_getElem.1 hi;exact q
   exact ⟨⟨by omega,h1.2.2.1,rfl,Od _,by omega,rfl,fun q=>q,.inr hlt⟩,hlt,h1.2.1⟩
  .injection h with h;injection h with h2 h3;injection h3 with h3 h4;subst h2 h3 h4;exact ⟨⟨by omega,h1.2.2.1,rfl,by simp,by simp,rfl,fun q=>q,.inr (by simp)⟩,by simp,h1.2.1⟩
theorem iB:∀ {n k e:Nat} {r r2:RdS} {c c2:dz},k<=s.size->flagsE s n k r c=.ok (e,r2,c2)->FlOk s k e r r2 c c2
 | 0,_,_,_,_,_,_,_,h=>by cases h
 | n+1,k,e,r,r2,c,c2,hk,h=>by
  unfold flagsE at h;split at h
  .rename_i hc;have:=aN hc.2;have ih:=iB (by omega) h;exact ⟨by have:=ih.ke;omega,ih.es,ih.req,ih.n1,ih.n2,by rw [ih.ceq],ih.nb,ih.fl⟩
  .split at h
   .rename_i hc;have:=aN hc.2;have ih:=iB (by omega) h;exact ⟨by have:=ih.ke;omega,ih.es,ih.req,ih.n1,ih.n2,by rw [ih.ceq],ih.nb,ih.fl⟩
   .split at h
    .split at h
     .cases h
     .rename_i e1 v hn;have h1:=zR hk hn;have ih:=iB h1.2.1 h;exact ⟨by have:=ih.ke;omega,ih.es,ih.req,ih.n1,ih.n2,by rw [ih.ceq],fun _=>ih.nb h1.2.2.1,ih.fl⟩
    .split at h
     .rename_i h119;have:=aN h119;have ih:=(ua (by omega) h).1;exact ⟨by have:=ih.ke;omega,ih.es,ih.req,ih.n1,ih.n2,ih.ceq,ih.nb,ih.fl⟩
     .injection h with h;injection h with h2 h3;injection h3 with h3 h4;subst h2 h3 h4;exact ⟨Od _,hk,rfl,Od _,by omega,rfl,fun q=>q,.inl ⟨rfl,rfl⟩⟩
structure OpOkS (s:ByteArray) (k e:Nat) (r r2:RdS) (c c2:dz):Prop where
 ke:k<=e
 es:e<=s.size
 cl:r2.aI.length=r.aI.length
 rg:r2.ranges=r.ranges
 n1:r.names.length<=r2.names.length
 n2:r2.names.length<=r.names.length+1
 b8:r.blocks.length<=8->r2.blocks.length<=8
 bl:(∀ i∈r.blocks,i < r.aI.length)->∀ i∈r2.blocks,i<=r.aI.length
 wl:r2.wanted.length<=r.wanted.length+1
 wi:(∀ p∈r.wanted,p.1 < r.aI.length)->∀ p∈r2.wanted,p.1<=r.aI.length
 li:(∀ p∈r.labels,p.2 < r.aI.length)->∀ p∈r2.labels,p.2<=r.aI.length
 cs:∀ d∈r2.aI,∃ d0∈r.aI,d=d0\/d={ d0 with goal:=r.aI.length }
 ca:c2.gQ=c.gQ
 cr:c2.range=c.range
 cn:c2.neg=c.neg
 cw:c2.what=c.what
 cg:c2.goal=c.goal
 ok:(c.gQ.length<=2)->(∀ p,gi.pat p∈c.gQ->rE p.G p.x)->(∀ n,gi.num n∈c.gQ->n<=1000000)->(c.gQ.length=2->c.range < r.ranges)->jx.contains c.what=true->gA r2.names.length r.ranges c2
theorem OpOkS.same {k e:Nat} {r:RdS} {c c2:dz} (ke:k<=e) (es:e<=s.size) (ca:c2.gQ=c.gQ) (cr:c2.range=c.range) (cn:c2.neg=c.neg) (cw:c2.what=c.what) (cg:c2.goal=c.goal)
  (ok:(c.gQ.length<=2)->(∀ p,gi.pat p∈c.gQ->rE p.G p.x)->(∀ n,gi.num n∈c.gQ->n<=1000000)->(c.gQ.length=2->c.range < r.ranges)->jx.contains c.what=true->gA r.names.length r.ranges c2):OpOkS s k e r r c c2:=
 ⟨ke,es,rfl,rfl,Od _,by omega,fun h=>h,fun h i hi=>Ov (h i hi),by omega,fun h i hi=>Ov (h i hi),fun h i hi=>Ov (h i hi),fun d hd=>⟨d,hd,.inl rfl⟩,ca,cr,cn,cw,cg,ok⟩
theorem ic {L:List gi} {rn x nn rr:Nat} {nt:Bool} (h119:x≠119) (h115:x≠115) (h1:L.length<=2) (h2:∀ p,gi.pat p∈L->rE p.G p.x) (h3:∀ n,gi.num n∈L->n<=1000000) (h4:L.length=2->rn < rr) (h5:jx.contains x=true):gA nn rr (dv L rn nt x):=
 ⟨h1,h2,h3,h4,h5,fun q=>q.elim (fun q=>absurd q h119) (fun q=>absurd rfl q),Og _,Og _,fun p hp=>(by cases hp),fun q=>absurd q h115,Og _,Og _,Og _,rfl,Og _⟩
theorem Ck {k e:Nat} {r r2:RdS} {L:List gi} {rn x:Nat} {nt:Bool} {c2:dz} (hsz:s.size<=2000) (hk:k<=s.size) (h:operE s k r (dv L rn nt x)=.ok (e,r2,c2)):OpOkS s k e r r2 (dv L rn nt x) c2:=by
 have hbs:=eF hk;have hbl:=ru s k;simp only [operE] at h;by_cases h123:x=123
 .rw [Oa (show (dv L rn nt x).what=123 from h123)] at h;split at h
  .cases h
  .injection h with h;injection h with h1 h2;injection h2 with h2 h3;subst h1 h2 h3;refine ⟨Od _,hk,rfl,rfl,Od _,by simp,fun q=>by simp;omega,fun q i hi=>?_,by simp,fun q i hi=>Ov (q i hi),fun q i hi=>Ov (q i hi),fun d hd=>⟨d,hd,.inl rfl⟩,rfl,rfl,rfl,rfl,rfl,fun a1 a2 a3 a4 a5=>ic (by omega) (by omega) a1 a2 a3 a4 a5⟩;rcases List.mem_append.1 hi with q2 | q2
   .exact Ov (q i q2)
   .simp at q2;omega
 rw [N7 (show ¬ (dv L rn nt x).what=123 from h123)] at h;by_cases h125:x=125
 .rw [Oa (show (dv L rn nt x).what=125 from h125)] at h;split at h
  .cases h
  .rename_i i hi;injection h with h;injection h with h1 h2;injection h2 with h2 h3;subst h1 h2 h3;refine ⟨Od _,hk,by simp,rfl,Od _,by simp,fun q=>by simp;omega,fun q j hj=>Ov (q j (List.dropLast_subset _ hj)),by simp,fun q i hi=>Ov (q i hi),fun q i hi=>Ov (q i hi),fun d hd=>?_,rfl,rfl,rfl,rfl,rfl,fun a1 a2 a3 a4 a5=>ic (by omega) (by omega) a1 a2 a3 a4 a5⟩;obtain ⟨j,hj,hd⟩:=List.mem_iff_getElem.1 hd;simp only [List.length_modify] at hj;rw [List.getElem_modify] at hd;refine ⟨r.aI[j],List.getElem_mem _,?_⟩;split at hd
   .exact .inr hd.symm
   .exact .inl hd.symm
 rw [N7 (show ¬ (dv L rn nt x).what=125 from h125)] at h;by_cases h58:x=58
 .rw [Oa (show (dv L rn nt x).what=58 from h58)] at h;split at h
  .cases h
  .rename_i e1 y hw;have hw:=jw hk hw;split at h
   .cases h
   .injection h with h;injection h with h1 h2;injection h2 with h2 h3;subst h1 h2 h3;refine ⟨by omega,hw.2.2.1,rfl,rfl,Od _,by simp,fun q=>q,fun q i hi=>Ov (q i hi),by simp,fun q i hi=>Ov (q i hi),fun q p hp=>?_,fun d hd=>⟨d,hd,.inl rfl⟩,rfl,rfl,rfl,rfl,rfl,fun a1 a2 a3 a4 a5=>?_⟩
    .rcases List.mem_append.1 hp with q2 | q2
     .exact Ov (q p q2)
     .simp at q2;subst q2;exact Od _
    .have o:=ic (L:=L) (rn:=rn) (x:=x) (nn:=r.names.length) (rr:=r.ranges) (nt:=nt) (by omega) (by omega) a1 a2 a3 a4 a5;exact ⟨o.adr,o.pts,o.nums,o.rng,o.wh,o.fl,o.st,o.nb,o.pt,o.sp,o.tx,o.nw,o.nh,o.yl,o.yy⟩
 rw [N7 (show ¬ (dv L rn nt x).what=58 from h58)] at h;by_cases hb:x=98\/x=116
 .rw [Oa (show (dv L rn nt x).what=98\/(dv L rn nt x).what=116 from hb)] at h;split at h
  .split at h
   .cases h
   .rename_i e1 y hw;have hw:=jw hbs hw;injection h with h;injection h with h1 h2;injection h2 with h2 h3;subst h1 h2 h3;refine ⟨by omega,hw.2.2.1,rfl,rfl,Od _,by simp,fun q=>q,fun q i hi=>Ov (q i hi),by simp,fun q p hp=>?_,fun q i hi=>Ov (q i hi),fun d hd=>⟨d,hd,.inl rfl⟩,rfl,rfl,rfl,rfl,rfl,fun a1 a2 a3 a4 a5=>?_⟩
    .rcases List.mem_append.1 hp with q2 | q2
     .exact Ov (q p q2)
     .simp at q2;subst q2;exact Od _
    .have o:=ic (L:=L) (rn:=rn) (x:=x) (nn:=r.names.length) (rr:=r.ranges) (nt:=nt) (by omega) (by omega) a1 a2 a3 a4 a5;exact ⟨o.adr,o.pts,o.nums,o.rng,o.wh,o.fl,o.st,o.nb,o.pt,o.sp,o.tx,o.nw,o.nh,o.yl,o.yy⟩
  .injection h with h;injection h with h1 h2;injection h2 with h2 h3;subst h1 h2 h3;refine ⟨by omega,hbs,rfl,rfl,Od _,by simp,fun q=>q,fun q i hi=>Ov (q i hi),by simp,fun q p hp=>?_,fun q i hi=>Ov (q i hi),fun d hd=>⟨d,hd,.inl rfl⟩,rfl,rfl,rfl,rfl,rfl,fun a1 a2 a3 a4 a5=>ic (by omega) (by omega) a1 a2 a3 a4 a5⟩;rcases List.mem_append.1 hp with q2 | q2
   .exact Ov (q p q2)
   .simp at q2;subst q2;exact Od _
 rw [N7 (show ¬ ((dv L rn nt x).what=98\/(dv L rn nt x).what=116) from hb)] at h;by_cases ht:x=97\/x=105\/x=99
 .rw [Oa (show (dv L rn nt x).what=97\/(dv L rn nt x).what=105\/(dv L rn nt x).what=99 from ht)] at h;split at h
  .cases h
  .rename_i e1 l hw;have hw:=Bo hbs hw;injection h with h;injection h with h1 h2;injection h2 with h2 h3;subst h1 h2 h3;refine .same (by omega) hw.2.1 rfl rfl rfl rfl rfl fun a1 a2 a3 a4 a5=>?_;have o:=ic (L:=L) (rn:=rn) (x:=x) (nn:=r.names.length) (rr:=r.ranges) (nt:=nt) (by omega) (by omega) a1 a2 a3 a4 a5;exact ⟨o.adr,o.pts,o.nums,o.rng,o.wh,o.fl,o.st,o.nb,o.pt,o.sp,by simp at hw ⊢;omega,o.nw,o.nh,o.yl,o.yy⟩
 rw [N7 (show ¬ ((dv L rn nt x).what=97\/(dv L rn nt x).what=105\/(dv L rn nt x).what=99) from ht)] at h;by_cases h115:x=115
 .rw [Oa (show (dv L rn nt x).what=115 from h115)] at h;split at h
  .cases h
  .rename_i e1 p hp;have hp:=zH hsz hp;split at h
   .cases h
   .rename_i e2 l hs hn;have hn:=tI hn ⟨by simp,by simp⟩;have f:=iB hn.2.1 h;have hc2:c2=_:=f.ceq;have hr2:r2=_:=f.req;have hnl:=hn.2.2.1;simp at hnl;refine ⟨by have:=f.ke;omega,f.es,by rw [hr2],by rw [hr2],f.n1,f.n2,fun q=>by rw [hr2];exact q,fun q i hi=>by rw [hr2] at hi;exact Ov (q i hi),by rw [hr2];simp,fun q i hi=>by rw [hr2] at hi;exact Ov (q i hi),fun q i hi=>by rw [hr2] at hi;exact Ov (q i hi),fun d hd=>⟨d,by rw [hr2] at hd;exact hd,.inl rfl⟩,by rw [hc2],by rw [hc2],by rw [hc2],by rw [hc2],by rw [hc2],fun a1 a2 a3 a4 a5=>?_⟩;have nb:=f.nb (Og _);have fl:=f.fl;rw [hc2];refine ⟨a1,a2,a3,a4,a5,fun q=>?_,Og _,nb,fun p2 hp2=>?_,fun _ q=>(by cases q),Og _,by show l.length<=2000;omega,by show hs.length<=2000;omega,rfl,Og _⟩
    .rcases fl with ⟨f1,f2⟩ | f1
     .rcases q with q | q
      .have:x=119:=q;omega
      .exact absurd (by show c2.name.size=0;rw [f1];rfl) q
     .exact f1
    .injection hp2 with hp2;subst hp2;exact ⟨hp.2.2.1,hn.2.2.2⟩
 rw [N7 (show ¬ (dv L rn nt x).what=115 from h115)] at h;by_cases h121:x=121
 .rw [Oa (show (dv L rn nt x).what=121 from h121)] at h;split at h
  .rename_i h47;split at h
   .cases h
   .rename_i e1 l h1;have h1:=tW h1;split at h
    .cases h
    .rename_i e2 l2 h2;have h2:=MS h2 (by simp);injection h with h;injection h with q1 q2;injection q2 with q2 q3;subst q1 q2 q3;simp at h1;refine .same (by omega) h2.2.1 rfl rfl rfl rfl rfl fun a1 a2 a3 a4 a5=>?_;have o:=ic (L:=L) (rn:=rn) (x:=x) (nn:=r.names.length) (rr:=r.ranges) (nt:=nt) (by omega) (by omega) a1 a2 a3 a4 a5;exact ⟨o.adr,o.pts,o.nums,o.rng,o.wh,o.fl,o.st,o.nb,o.pt,o.sp,o.tx,o.nw,o.nh,h2.2.2.symm,by show l.length<=2000;omega⟩
  .cases h
 rw [N7 (show ¬ (dv L rn nt x).what=121 from h121)] at h;by_cases h113:x=113
 .rw [Oa (show (dv L rn nt x).what=113 from h113)] at h;split at h
  .cases h
  .rename_i e1 v hn;have hn:=zR hbs hn;injection h with h;injection h with q1 q2;injection q2 with q2 q3;subst q1 q2 q3;refine .same (by omega) hn.2.1 rfl rfl rfl rfl rfl fun a1 a2 a3 a4 a5=>?_;have o:=ic (L:=L) (rn:=rn) (x:=x) (nn:=r.names.length) (rr:=r.ranges) (nt:=nt) (by omega) (by omega) a1 a2 a3 a4 a5;exact ⟨o.adr,o.pts,o.nums,o.rng,o.wh,o.fl,hn.2.2.1,o.nb,o.pt,o.sp,o.tx,o.nw,o.nh,o.yl,o.yy⟩
 rw [N7 (show ¬ (dv L rn nt x).what=113 from h113)] at h;by_cases h119:x=119
 .rw [Oa (show (dv L rn nt x).what=119 from h119)] at h;obtain ⟨f,hlt,_⟩:=ua hk h;have hc2:c2=_:=f.ceq;have hr2:r2=_:=f.req;refine ⟨f.ke,f.es,by rw [hr2],by rw [hr2],f.n1,f.n2,fun q=>by rw [hr2];exact q,fun q i hi=>by rw [hr2] at hi;exact Ov (q i hi),by rw [hr2];simp,fun q i hi=>by rw [hr2] at hi;exact Ov (q i hi),fun q i hi=>by rw [hr2] at hi;exact Ov (q i hi),fun d hd=>⟨d,by rw [hr2] at hd;exact hd,.inl rfl⟩,by rw [hc2],by rw [hc2],by rw [hc2],by rw [hc2],by rw [hc2],fun a1 a2 a3 a4 a5=>?_⟩;have nb:=f.nb (Og _);rw [hc2];exact ⟨a1,a2,a3,a4,a5,fun _=>hlt,Og _,nb,fun p2 hp2=>(by cases hp2),fun q=>absurd q h115,Og _,Og _,Og _,rfl,Og _⟩
 rw [N7 (show ¬ (dv L rn nt x).what=119 from h119)] at h;injection h with h;injection h with q1 q2;injection q2 with q2 q3;subst q1 q2 q3;exact .same (Od _) hk rfl rfl rfl rfl rfl fun a1 a2 a3 a4 a5=>ic h119 h115 a1 a2 a3 a4 a5
structure yK (r:RdS) (k:Nat):Prop where
 cl:r.aI.length<=k
 nl:r.names.length<=k
 rl:r.ranges<=k
 b8:r.blocks.length<=8
 bl:∀ i∈r.blocks,i < r.aI.length
 wl:r.wanted.length<=k
 wi:∀ p∈r.wanted,p.1 < r.aI.length
 li:∀ p∈r.labels,p.2 < r.aI.length
 gl:∀ c∈r.aI,c.goal<=r.aI.length
 ok:∀ c∈r.aI,gA r.names.length r.ranges c
theorem yK.mono {r:RdS} {k l:Nat} (h:yK r k) (hl:k<=l):yK r l:=
 ⟨Oc h.cl hl,Oc h.nl hl,Oc h.rl hl,h.b8,h.bl,Oc h.wl hl,h.wi,h.li,h.gl,h.ok⟩
theorem xw:yK rd0 0:=⟨Od _,Od _,Od _,Og _,fun _ h=>(by cases h),Od _,fun _ h=>(by cases h),fun _ h=>(by cases h),fun _ h=>(by cases h),fun _ h=>(by cases h)⟩
theorem Jk {k e:Nat} {r r2:RdS} (hsz:s.size<=2000) (hk:k<=s.size) (hr:yK r k) (h:cmdE s k r=.ok (e,r2)):yK r2 e/\k < e/\e<=s.size:=by
 unfold cmdE at h;split at h
 .cases h
 .rename_i k1 L ha;have ha:=Dc hsz hk ha;have hb1:=ru s k1;have hb2:=eF ha.2.1;obtain ⟨k3,hk3⟩:∃ k3,k3=if saw s (blk s k1) 33=true then blk s (blk s k1+1) else blk s k1:=⟨_,rfl⟩;obtain ⟨r1,hr1⟩:∃ r1,r1=if L.length=2 then { r with ranges:=r.ranges+1 } else r:=⟨_,rfl⟩;dsimp only at h;rw [<-hk3,<-hr1] at h;have hk13:k1<=k3:=by
   rw [hk3];split
   .have:=ru s (blk s k1+1);omega
   .omega
  split at h
  .rename_i hlt;split at h
   .cases h
   .rename_i hwh;split at h
    .cases h
    .split at h
     .cases h
     .rename_i e1 rr c ho;have o:=Ck hsz (by omega) ho;have hwh:jx.contains (s[k3]'hlt).toNat=true:=by simpa using hwh
      have e1':r1.aI=r.aI/\r1.names=r.names/\r1.blocks=r.blocks/\r1.wanted=r.wanted/\r1.labels=r.labels/\r.ranges<=r1.ranges/\r1.ranges<=r.ranges+1/\(L.length=2->r.ranges < r1.ranges):=by
       rw [hr1];split
       .exact ⟨rfl,rfl,rfl,rfl,rfl,by simp,by simp,fun _=>by simp⟩
       .exact ⟨rfl,rfl,rfl,rfl,rfl,by simp,by simp,fun q=>by omega⟩
      obtain ⟨q1,q2,q3,q4,q5,q6,q7,q8⟩:=e1'
      have ok2:gA rr.names.length r1.ranges c:=o.ok ha.2.2.1 ha.2.2.2.1 ha.2.2.2.2 (fun q=>by
       show (if L.length=2 then r.ranges else 0) < _;rw [Oa (show L.length=2 from q)]
       exact q8 q) hwh
      have ke:=o.ke;have es:=o.es;have fin:∀ e',e1<=e'->yK { rr with aI:=rr.aI++[c] } e':=by
       intro e' he';have hcl:=hr.cl;have hnl:=hr.nl;have hrl:=hr.rl;have hwl:=hr.wl;have ocl:=o.cl;have on2:=o.n2;have owl:=o.wl;have org:=o.rg;rw [q1] at ocl;rw [q2] at on2;rw [q4] at owl;refine ⟨by simp;omega,by show rr.names.length<=_;omega,by show rr.ranges<=_;omega,o.b8 (by rw [q3];exact hr.b8),fun i hi=>?_,by show rr.wanted.length<=_;omega,fun p hp=>?_,fun p hp=>?_,fun d hd=>?_,fun d hd=>?_⟩
       .have:=o.bl (by rw [q1,q3];exact hr.bl) i hi;rw [q1] at this;simp;omega
       .have:=o.wi (by rw [q1,q4];exact hr.wi) p hp;rw [q1] at this;simp;omega
       .have:=o.li (by rw [q1,q5];exact hr.li) p hp;rw [q1] at this;simp;omega
       .simp only [N9,Ot,Pa];rcases List.mem_append.1 hd with q | q
        .obtain ⟨d0,hd0,q | q⟩:=o.cs d q
         .subst q;rw [q1] at hd0;have:=hr.gl d hd0;omega
         .subst q;show r1.aI.length<=_;rw [q1];omega
        .simp at q;subst q;rw [o.cg];exact Og _
       .show gA rr.names.length rr.ranges d;rw [org];rcases List.mem_append.1 hd with q | q
        .obtain ⟨d0,hd0,q | q⟩:=o.cs d q
         .subst q;rw [q1] at hd0;exact (hr.ok d hd0).mono (by rw [<-q2];exact o.n1) q6
         .subst q;rw [q1] at hd0;exact ((hr.ok d0 hd0).mono (by rw [<-q2];exact o.n1) q6).goal _
        .simp at q;subst q;exact ok2
      split at h
      .injection h with h;injection h with h1 h2;subst h1 h2;exact ⟨fin e1 (Od _),by omega,by omega⟩
      .split at h
       .injection h with h;injection h with h1 h2;subst h1 h2;exact ⟨fin _ (ru s e1),by have:=ru s e1;omega,eF es⟩
       .cases h
  .cases h
theorem uj:∀ (n k:Nat),k<=JZ s n k/\(k<=s.size->JZ s n k<=s.size)
 | 0,k=>⟨Od _,fun h=>h⟩
 | n+1,k=>by
  unfold JZ;split
  .have:=uj n (k+1);exact ⟨by omega,fun _=>this.2 (by omega)⟩
  .exact ⟨Od _,fun h=>h⟩
theorem lS:∀ (n k:Nat),k<=C7 s n k/\(k<=s.size->C7 s n k<=s.size)
 | 0,k=>⟨Od _,fun h=>h⟩
 | n+1,k=>by
  unfold C7;split
  .have h1:=uj (s:=s) (s.size+1) k;have:=lS n (JZ s (s.size+1) k);exact ⟨by omega,fun q=>this.2 (h1.2 q)⟩
  .split
   .rename_i h;have hlt:k < s.size:=by
     simp only [PM] at h;rcases h with (h | h) | h
     .exact aN h
     .exact aN h
     .exact xQ h
    have:=lS n (k+1);exact ⟨by omega,fun _=>this.2 (by omega)⟩
   .exact ⟨Od _,fun h=>h⟩
theorem CZ (hsz:s.size<=2000):∀ {n k:Nat} {r r2:RdS},k<=s.size->yK r k->cmdsE s n k r=.ok r2->yK r2 s.size
 | 0,_,_,_,_,_,h=>by cases h
 | n+1,k,r,r2,hk,hr,h=>by
  unfold cmdsE at h;have hb:=lS (s:=s) (s.size+1) k;split at h
  .split at h
   .cases h
   .rename_i e r1 hc;have:=Jk hsz (hb.2 hk) (hr.mono hb.1) hc;exact CZ hsz this.2.2 this.1 h
  .injection h with h;subst h;exact hr.mono hk
theorem oZ {k:Nat}:∀ {l:List (Nat×Nat)} {r r2:RdS},yK r k->goalsE l r=.ok r2->yK r2 k/\r2={ r with aI:=r2.aI }/\r2.aI.length=r.aI.length
 | [],_,_,hr,h=>by
  injection h with h;subst h;exact ⟨hr,rfl,rfl⟩
 | (i,pl)::l,r,r2,hr,h=>by
  unfold goalsE at h;have key:∀ (c:dz) (g:Nat),r.aI[i]? = some c->g<=r.aI.length->yK { r with aI:=r.aI.set i { c with goal:=g } } k:=by
   intro c g hc hg;have hm:c∈r.aI:=Oo hc;have hlen:(r.aI.set i { c with goal:=g }).length=r.aI.length:=OL;refine ⟨by rw [hlen];exact hr.cl,hr.nl,hr.rl,hr.b8,fun j hj=>by rw [hlen];exact hr.bl j hj,hr.wl,fun j hj=>by rw [hlen];exact hr.wi j hj,fun j hj=>by rw [hlen];exact hr.li j hj,fun d hd=>?_,fun d hd=>?_⟩
   .rw [hlen];rcases O9 hd with q | q
    .exact hr.gl d q
    .subst q;exact hg
   .rcases O9 hd with q | q
    .exact hr.ok d q
    .subst q;exact (hr.ok c hm).goal g
  split at h
  .cases h
  .rename_i c hc;split at h
   .obtain ⟨h1,h2,h3⟩:=oZ (key c _ hc (Od _)) h;refine ⟨h1,?_,by rw [h3];simp⟩;rw [h2]
   .split at h
    .cases h
    .rename_i y n hf;have:=hr.li _ (List.mem_of_find?_eq_some hf);obtain ⟨h1,h2,h3⟩:=oZ (key c n hc (by omega)) h;refine ⟨h1,?_,by rw [h3];simp⟩;rw [h2]
structure eS (S:eI):Prop where
 cl:S.aI.length<=2000
 nl:S.names.length<=2000
 rl:S.ranges<=2000
 gl:∀ c∈S.aI,c.goal<=S.aI.length
 ok:∀ c∈S.aI,gA S.names.length S.ranges c
theorem scrE_ok {S:eI} (h:scrE s=.ok S):eS S:=by
 unfold scrE at h;split at h
 .cases h
 .split at h
  .cases h
  .rename_i r hc;have hr:=CZ (by omega) (Og _) xw hc;split at h
   .cases h
   .split at h
    .cases h
    .rename_i r2 hg;have h2:=(oZ hr hg).1;injection h with h;subst h;exact ⟨by have:=h2.cl;show r2.aI.length<=_;omega,by have:=h2.nl;show r2.names.length<=_;omega,by have:=h2.rl;show r2.ranges<=_;omega,h2.gl,h2.ok⟩
end
end Go.Proofs.YtiahkfoojjpaaaaGreatDoor
