import Derived.Test.YtiahkfoojjpaaaaGreatDoorT33
set_option maxRecDepth 100000
set_option maxHeartbeats 16000000
set_option linter.all false
namespace Go.Proofs.YtiahkfoojjpaaaaGreatDoor
open Go.RowKit
structure HoOk (H:List (Nat×Nat)) (n G:Nat):Prop where
 le:∀ h∈H,h.1<=n/\h.2<=G
 pw:H.Pairwise (fun a b=>a.1<=b.1)
structure fR (nn rr:Nat) (c:du):Prop where
 adr:c.fq.length<=2
 pts:∀ p,fS.pat p∈c.fq->pR p.G p.x
 nums:∀ n,fS.num n∈c.fq->n<=1000000
 rng:c.fq.length=2->c.range < rr
 wh:jj.contains c.what=true
 fl:(c.what=119\/c.name.size≠0)->c.file < nn
 st:c.status<=255
 nb:c.number<=1000000
 pt:∀ p,c.pat=some p->pR p.G p.x/\HoOk c.di c.new.plain.length p.G
 sp:c.what=115->c.pat≠none
 tx:c.text.plain.length<=2000
 nw:c.new.plain.length<=2000
 nh:c.di.length<=2000
 yl:c.rk.plain.length=c.yto.plain.length
 yy:c.rk.plain.length<=2000
theorem fR.mono {nn rr nn' rr':Nat} {c:du} (h:fR nn rr c) (h1:nn<=nn') (h2:rr<=rr'):fR nn' rr' c:=
 ⟨h.adr,h.pts,h.nums,fun q=>by have:=h.rng q;omega,h.wh,fun q=>by have:=h.fl q;omega,h.st,h.nb,h.pt,h.sp,h.tx,h.nw,h.nh,h.yl,h.yy⟩
theorem fR.goal {nn rr:Nat} {c:du} (h:fR nn rr c) (g:Nat):fR nn rr { c with goal:=g }:=
 ⟨h.adr,h.pts,h.nums,h.rng,h.wh,h.fl,h.st,h.nb,h.pt,h.sp,h.tx,h.nw,h.nh,h.yl,h.yy⟩
section
variable {s:ByteArray}
theorem tD:∀ {n k:Nat} {acc:List UInt8} {e:Nat} {l:List UInt8},pL s n k acc=.ok (e,l)->k < e/\e<=s.size/\l.length+k+1<=acc.length+e
 | 0,_,_,_,_,h=>by cases h
 | n+1,k,acc,e,l,h=>by
  unfold pL at h;split at h
  .rename_i hk;split at h
   .injection h with h;injection h with h1 h2;subst h1 h2;omega
   .split at h
    .cases h
    .rename_i l1 c hp;have:=fP hp;split at h
     .cases h
     .have:=tD h;simp at this;omega
  .cases h
theorem Mq {m:Nat}:∀ {n k:Nat} {acc:List UInt8} {e:Nat} {l:List UInt8},toE s m n k acc=.ok (e,l)->acc.length<=m->k < e/\e<=s.size/\l.length=m
 | 0,_,_,_,_,h,_=>by cases h
 | n+1,k,acc,e,l,h,ha=>by
  unfold toE at h;split at h
  .rename_i hk;split at h
   .split at h
    .cases h
    .injection h with h;injection h with h1 h2;subst h1 h2;omega
   .split at h
    .cases h
    .split at h
     .cases h
     .rename_i l1 c hp;have:=fP hp;have:=Mq h (by simp;omega);omega
  .cases h
theorem Hz {G k l g:Nat} (h:xy s G k=some (l,g)):k < l/\l<=s.size/\g<=G:=by
 unfold xy at h;split at h
 .rename_i h38;injection h with h;injection h with h1 h2;have:=aM h38;omega
 .split at h
  .split at h
   .split at h
    .injection h with h;injection h with h1 h2;omega
    .cases h
   .cases h
  .cases h
theorem rZ {G:Nat}:∀ {n k:Nat} {acc:List UInt8} {hs:List (Nat×Nat)} {e:Nat} {l:List UInt8} {H:List (Nat×Nat)},newE s G n k acc hs=.ok (e,l,H)->HoOk hs acc.length G->k < e/\e<=s.size/\l.length+H.length+k+1<=acc.length+hs.length+e/\HoOk H l.length G
 | 0,_,_,_,_,_,_,h,_=>by cases h
 | n+1,k,acc,hs,e,l,H,h,ho=>by
  unfold newE at h;split at h
  .rename_i hk;split at h
   .injection h with h;injection h with h1 h2;injection h2 with h2 h3;subst h1 h2 h3;exact ⟨by omega,by omega,by omega,ho⟩
   .split at h
    .rename_i l1 g hh;have h1:=Hz hh
     have ih:=rZ h (by
      refine ⟨fun x hx=>?_,?_⟩
      .rcases List.mem_append.1 hx with q | q
       .exact ho.le x q
       .simp at q;subst q;exact ⟨Nw _,h1.2.2⟩
      .rw [List.pairwise_append];refine ⟨ho.pw,by simp,fun a ha b hb=>?_⟩;simp at hb;subst hb
       exact (ho.le a ha).1)
     simp at ih;exact ⟨by omega,by omega,by omega,ih.2.2.2⟩
    .split at h
     .cases h
     .rename_i l1 c hp;have h1:=fP hp
      have ih:=rZ h (by
       refine ⟨fun x hx=>?_,ho.pw⟩;have:=ho.le x hx;simp
       omega)
      simp at ih;exact ⟨by omega,by omega,by omega,ih.2.2.2⟩
  .cases h
theorem AQ:∀ {n k:Nat} {acc:List UInt8} {e:Nat} {l:List UInt8},k<=s.size->textE s n k acc=.ok (e,l)->k<=e/\e<=s.size/\l.length+k<=acc.length+e
 | 0,_,_,_,_,_,h=>by cases h
 | n+1,k,acc,e,l,hk0,h=>by
  unfold textE at h;split at h
  .rename_i hk;split at h
   .cases h
   .rename_i l1 c hp;have:=fP hp;have:=AQ (by omega) h;simp at this;omega
  .injection h with h;injection h with h1 h2;subst h1 h2;omega
theorem Gl:∀ {n k e:Nat},ptE s n k=.ok e->k < e/\e<=s.size
 | 0,_,_,h=>by cases h
 | n+1,k,e,h=>by
  unfold ptE at h;split at h
  .split at h
   .injection h with h;omega
   .split at h
    .split at h
     .have:=Gl h;omega
     .cases h
    .have:=Gl h;omega
  .cases h
theorem yM {k e:Nat} {p:Ptn} (hsz:s.size<=2000) (h:patE s k=.ok (e,p)):k+1 < e/\e<=s.size/\pR p.G p.x/\p.txt=s.extract (k+1) (e - 1)/\saw s k 47=true:=by
 unfold patE at h;split at h
 .rename_i h47;have:=aM h47;split at h
  .cases h
  .rename_i e1 he;have h1:=Gl he;have hg:=rO (src:=s.extract 0 (e1 - 1)) (fr:=k+1) (by simp;omega) (by simp;omega);split at h
   .cases h
   .rename_i G x hr;rw [hr] at hg;injection h with h;injection h with h2 h3;subst h2 h3;exact ⟨h1.1,h1.2,hg.1,rfl,h47⟩
 .cases h
theorem yV {lo hi k e x:Nat} (hk:k<=s.size) (h:Js s lo hi k=.ok (e,x)):k<=e/\e<=s.size/\x<=hi/\(isD s k=true->k < e/\lo<=x):=by
 have:=yQ hk (NI hi) h;exact ⟨this.1,this.2.1,this.2.2.1,this.2.2.2 (by omega)⟩
theorem ji {k e:Nat} {x:ByteArray} (hk:k<=s.size) (h:wordE s k=.ok (e,x)):blk s k < e/\k < e/\e<=s.size/\e<=blk s k+8/\x=s.extract (blk s k) e/\blk s k+x.size=e:=by
 unfold wordE at h;split at h
 .cases h
 .rename_i e1 he;injection h with h;injection h with h1 h2;subst h1 h2;have:=qX s k;have:=Mp (eF hk) he;have hx:(s.extract (blk s k) e1).size=e1 - blk s k:=by simp;omega
  have h3:=this.2.2 (Nw _);exact ⟨h3.1,by omega,this.2.1,h3.2 (by omega),rfl,by rw [hx];omega⟩
theorem Je {k e:Nat} {a:fS} (hsz:s.size<=2000) (hk:k<=s.size) (h:adrE s k=.ok (e,a)):k < e/\e<=s.size/\(∀ p,a=.pat p->pR p.G p.x)/\∀ n,a=.num n->n<=1000000:=by
 unfold adrE at h;split at h
 .rename_i hd;split at h
  .cases h
  .rename_i e1 v hn;injection h with h;injection h with h1 h2;subst h1 h2;have:=yV hk hn;exact ⟨(this.2.2.2 hd).1,this.2.1,fun p e=>(by cases e),fun n e=>(by injection e with e;omega)⟩
 .split at h
  .rename_i h36;injection h with h;injection h with h1 h2;subst h1 h2;have:=aM h36;exact ⟨by omega,by omega,fun p e=>(by cases e),fun n e=>(by cases e)⟩
  .split at h
   .cases h
   .rename_i e1 p hp;injection h with h;injection h with h1 h2;subst h1 h2;have:=yM hsz hp;exact ⟨by omega,this.2.1,fun q e=>(by injection e with e;subst e;exact this.2.2.1),fun n e=>(by cases e)⟩
theorem Co {k e:Nat} {L:List fS} (hsz:s.size<=2000) (hk:k<=s.size) (h:adrsE s k=.ok (e,L)):k<=e/\e<=s.size/\L.length<=2/\(∀ p,fS.pat p∈L->pR p.G p.x)/\∀ n,fS.num n∈L->n<=1000000:=by
 unfold adrsE at h;split at h
 .split at h
  .cases h
  .rename_i e1 a ha;have h1:=Je hsz hk ha;split at h
   .rename_i h44;have:=aM h44;split at h
    .cases h
    .rename_i e2 b hb;injection h with h;injection h with h2 h3;subst h2 h3;have h4:=Je hsz (by omega) hb;refine ⟨by omega,h4.2.1,Nw _,fun p hp=>?_,fun n hn=>?_⟩
     .simp at hp;rcases hp with q | q
      .exact h1.2.2.1 p q.symm
      .exact h4.2.2.1 p q.symm
     .simp at hn;rcases hn with q | q
      .exact h1.2.2.2 n q.symm
      .exact h4.2.2.2 n q.symm
   .injection h with h;injection h with h2 h3;subst h2 h3;refine ⟨by omega,h1.2.1,by simp,fun p hp=>?_,fun n hn=>?_⟩
    .simp at hp;exact h1.2.2.1 p hp.symm
    .simp at hn;exact h1.2.2.2 n hn.symm
 .injection h with h;injection h with h2 h3;subst h2 h3;exact ⟨Nw _,hk,by simp,fun p hp=>(by simp at hp),fun n hn=>(by simp at hn)⟩
structure FlOk (s:ByteArray) (k e:Nat) (r r2:RdS) (c c2:du):Prop where
 ke:k<=e
 es:e<=s.size
 req:r2={ r with names:=r2.names }
 n1:r.names.length<=r2.names.length
 n2:r2.names.length<=r.names.length+1
 ceq:c2={ c with name:=c2.name,file:=c2.file,all:=c2.all,number:=c2.number,print:=c2.print }
 nb:c.number<=1000000->c2.number<=1000000
 fl:(c2.name=c.name/\c2.file=c.file)\/c2.file < r2.names.length
theorem tH {k e:Nat} {r r2:RdS} {c c2:du} (hk:k<=s.size) (h:fileE s k r c=.ok (e,r2,c2)):FlOk s k e r r2 c c2/\c2.file < r2.names.length/\k < e:=by
 unfold fileE at h;split at h
 .cases h
 .rename_i e1 x hw;have h1:=ji hk hw;split at h
  .rename_i i hi;injection h with h;injection h with h2 h3;injection h3 with h3 h4;subst h2 h3 h4;have hlt:i < r.names.length:=by
    obtain ⟨q,_⟩:=List.findIdx?_eq_some_iff_getElem.1 hi;exact q
   exact ⟨⟨by omega,h1.2.2.1,rfl,Nw _,by omega,rfl,fun q=>q,.inr hlt⟩,hlt,h1.2.1⟩
  .injection h with h;injection h with h2 h3;injection h3 with h3 h4;subst h2 h3 h4;exact ⟨⟨by omega,h1.2.2.1,rfl,by simp,by simp,rfl,fun q=>q,.inr (by simp)⟩,by simp,h1.2.1⟩
theorem ig:∀ {n k e:Nat} {r r2:RdS} {c c2:du},k<=s.size->flagsE s n k r c=.ok (e,r2,c2)->FlOk s k e r r2 c c2
 | 0,_,_,_,_,_,_,_,h=>by cases h
 | n+1,k,e,r,r2,c,c2,hk,h=>by
  unfold flagsE at h;split at h
  .rename_i hc;have:=aM hc.2;have ih:=ig (by omega) h;exact ⟨by have:=ih.ke;omega,ih.es,ih.req,ih.n1,ih.n2,by rw [ih.ceq],ih.nb,ih.fl⟩
  .split at h
   .rename_i hc;have:=aM hc.2;have ih:=ig (by omega) h;exact ⟨by have:=ih.ke;omega,ih.es,ih.req,ih.n1,ih.n2,by rw [ih.ceq],ih.nb,ih.fl⟩
   .split at h
    .split at h
     .cases h
     .rename_i e1 v hn;have h1:=yV hk hn;have ih:=ig h1.2.1 h;exact ⟨by have:=ih.ke;omega,ih.es,ih.req,ih.n1,ih.n2,by rw [ih.ceq],fun _=>ih.nb h1.2.2.1,ih.fl⟩
    .split at h
     .rename_i h119;have:=aM h119;have ih:=(tH (by omega) h).1;exact ⟨by have:=ih.ke;omega,ih.es,ih.req,ih.n1,ih.n2,ih.ceq,ih.nb,ih.fl⟩
     .injection h with h;injection h with h2 h3;injection h3 with h3 h4;subst h2 h3 h4;exact ⟨Nw _,hk,rfl,Nw _,by omega,rfl,fun q=>q,.inl ⟨rfl,rfl⟩⟩
structure OpOkS (s:ByteArray) (k e:Nat) (r r2:RdS) (c c2:du):Prop where
 ke:k<=e
 es:e<=s.size
 cl:r2.aE.length=r.aE.length
 rg:r2.ranges=r.ranges
 n1:r.names.length<=r2.names.length
 n2:r2.names.length<=r.names.length+1
 b8:r.blocks.length<=8->r2.blocks.length<=8
 bl:(∀ i∈r.blocks,i < r.aE.length)->∀ i∈r2.blocks,i<=r.aE.length
 wl:r2.wanted.length<=r.wanted.length+1
 wi:(∀ p∈r.wanted,p.1 < r.aE.length)->∀ p∈r2.wanted,p.1<=r.aE.length
 li:(∀ p∈r.labels,p.2 < r.aE.length)->∀ p∈r2.labels,p.2<=r.aE.length
 cs:∀ d∈r2.aE,∃ d0∈r.aE,d=d0\/d={ d0 with goal:=r.aE.length }
 ca:c2.fq=c.fq
 cr:c2.range=c.range
 cn:c2.neg=c.neg
 cw:c2.what=c.what
 cg:c2.goal=c.goal
 ok:(c.fq.length<=2)->(∀ p,fS.pat p∈c.fq->pR p.G p.x)->(∀ n,fS.num n∈c.fq->n<=1000000)->(c.fq.length=2->c.range < r.ranges)->jj.contains c.what=true->fR r2.names.length r.ranges c2
theorem OpOkS.same {k e:Nat} {r:RdS} {c c2:du} (ke:k<=e) (es:e<=s.size) (ca:c2.fq=c.fq) (cr:c2.range=c.range) (cn:c2.neg=c.neg) (cw:c2.what=c.what) (cg:c2.goal=c.goal)
  (ok:(c.fq.length<=2)->(∀ p,fS.pat p∈c.fq->pR p.G p.x)->(∀ n,fS.num n∈c.fq->n<=1000000)->(c.fq.length=2->c.range < r.ranges)->jj.contains c.what=true->fR r.names.length r.ranges c2):OpOkS s k e r r c c2:=
 ⟨ke,es,rfl,rfl,Nw _,by omega,fun h=>h,fun h i hi=>NX (h i hi),by omega,fun h i hi=>NX (h i hi),fun h i hi=>NX (h i hi),fun d hd=>⟨d,hd,.inl rfl⟩,ca,cr,cn,cw,cg,ok⟩
theorem gS {L:List fS} {rn x nn rr:Nat} {nt:Bool} (h119:x≠119) (h115:x≠115) (h1:L.length<=2) (h2:∀ p,fS.pat p∈L->pR p.G p.x) (h3:∀ n,fS.num n∈L->n<=1000000) (h4:L.length=2->rn < rr) (h5:jj.contains x=true):fR nn rr (dr L rn nt x):=
 ⟨h1,h2,h3,h4,h5,fun q=>q.elim (fun q=>absurd q h119) (fun q=>absurd rfl q),NI _,NI _,fun p hp=>(by cases hp),fun q=>absurd q h115,NI _,NI _,NI _,rfl,NI _⟩
theorem Bu {k e:Nat} {r r2:RdS} {L:List fS} {rn x:Nat} {nt:Bool} {c2:du} (hsz:s.size<=2000) (hk:k<=s.size) (h:operE s k r (dr L rn nt x)=.ok (e,r2,c2)):OpOkS s k e r r2 (dr L rn nt x) c2:=by
 have hbs:=eF hk;have hbl:=qX s k;simp only [operE] at h;by_cases h123:x=123
 .rw [Ny (show (dr L rn nt x).what=123 from h123)] at h;split at h
  .cases h
  .injection h with h;injection h with h1 h2;injection h2 with h2 h3;subst h1 h2 h3;refine ⟨Nw _,hk,rfl,rfl,Nw _,by simp,fun q=>by simp;omega,fun q i hi=>?_,by simp,fun q i hi=>NX (q i hi),fun q i hi=>NX (q i hi),fun d hd=>⟨d,hd,.inl rfl⟩,rfl,rfl,rfl,rfl,rfl,fun a1 a2 a3 a4 a5=>gS (by omega) (by omega) a1 a2 a3 a4 a5⟩;rcases List.mem_append.1 hi with q2 | q2
   .exact NX (q i q2)
   .simp at q2;omega
 rw [Nr (show ¬ (dr L rn nt x).what=123 from h123)] at h;by_cases h125:x=125
 .rw [Ny (show (dr L rn nt x).what=125 from h125)] at h;split at h
  .cases h
  .rename_i i hi;injection h with h;injection h with h1 h2;injection h2 with h2 h3;subst h1 h2 h3;refine ⟨Nw _,hk,by simp,rfl,Nw _,by simp,fun q=>by simp;omega,fun q j hj=>NX (q j (List.dropLast_subset _ hj)),by simp,fun q i hi=>NX (q i hi),fun q i hi=>NX (q i hi),fun d hd=>?_,rfl,rfl,rfl,rfl,rfl,fun a1 a2 a3 a4 a5=>gS (by omega) (by omega) a1 a2 a3 a4 a5⟩;obtain ⟨j,hj,hd⟩:=List.mem_iff_getElem.1 hd;simp only [List.length_modify] at hj;rw [List.getElem_modify] at hd;refine ⟨r.aE[j],List.getElem_mem _,?_⟩;split at hd
   .exact .inr hd.symm
   .exact .inl hd.symm
 rw [Nr (show ¬ (dr L rn nt x).what=125 from h125)] at h;by_cases h58:x=58
 .rw [Ny (show (dr L rn nt x).what=58 from h58)] at h;split at h
  .cases h
  .rename_i e1 y hw;have hw:=ji hk hw;split at h
   .cases h
   .injection h with h;injection h with h1 h2;injection h2 with h2 h3;subst h1 h2 h3;refine ⟨by omega,hw.2.2.1,rfl,rfl,Nw _,by simp,fun q=>q,fun q i hi=>NX (q i hi),by simp,fun q i hi=>NX (q i hi),fun q p hp=>?_,fun d hd=>⟨d,hd,.inl rfl⟩,rfl,rfl,rfl,rfl,rfl,fun a1 a2 a3 a4 a5=>?_⟩
    .rcases List.mem_append.1 hp with q2 | q2
     .exact NX (q p q2)
     .simp at q2;subst q2;exact Nw _
    .have o:=gS (L:=L) (rn:=rn) (x:=x) (nn:=r.names.length) (rr:=r.ranges) (nt:=nt) (by omega) (by omega) a1 a2 a3 a4 a5;exact ⟨o.adr,o.pts,o.nums,o.rng,o.wh,o.fl,o.st,o.nb,o.pt,o.sp,o.tx,o.nw,o.nh,o.yl,o.yy⟩
 rw [Nr (show ¬ (dr L rn nt x).what=58 from h58)] at h;by_cases hb:x=98\/x=116
 .rw [Ny (show (dr L rn nt x).what=98\/(dr L rn nt x).what=116 from hb)] at h;split at h
  .split at h
   .cases h
   .rename_i e1 y hw;have hw:=ji hbs hw;injection h with h;injection h with h1 h2;injection h2 with h2 h3;subst h1 h2 h3;refine ⟨by omega,hw.2.2.1,rfl,rfl,Nw _,by simp,fun q=>q,fun q i hi=>NX (q i hi),by simp,fun q p hp=>?_,fun q i hi=>NX (q i hi),fun d hd=>⟨d,hd,.inl rfl⟩,rfl,rfl,rfl,rfl,rfl,fun a1 a2 a3 a4 a5=>?_⟩
    .rcases List.mem_append.1 hp with q2 | q2
     .exact NX (q p q2)
     .simp at q2;subst q2;exact Nw _
    .have o:=gS (L:=L) (rn:=rn) (x:=x) (nn:=r.names.length) (rr:=r.ranges) (nt:=nt) (by omega) (by omega) a1 a2 a3 a4 a5;exact ⟨o.adr,o.pts,o.nums,o.rng,o.wh,o.fl,o.st,o.nb,o.pt,o.sp,o.tx,o.nw,o.nh,o.yl,o.yy⟩
  .injection h with h;injection h with h1 h2;injection h2 with h2 h3;subst h1 h2 h3;refine ⟨by omega,hbs,rfl,rfl,Nw _,by simp,fun q=>q,fun q i hi=>NX (q i hi),by simp,fun q p hp=>?_,fun q i hi=>NX (q i hi),fun d hd=>⟨d,hd,.inl rfl⟩,rfl,rfl,rfl,rfl,rfl,fun a1 a2 a3 a4 a5=>gS (by omega) (by omega) a1 a2 a3 a4 a5⟩;rcases List.mem_append.1 hp with q2 | q2
   .exact NX (q p q2)
   .simp at q2;subst q2;exact Nw _
 rw [Nr (show ¬ ((dr L rn nt x).what=98\/(dr L rn nt x).what=116) from hb)] at h;by_cases ht:x=97\/x=105\/x=99
 .rw [Ny (show (dr L rn nt x).what=97\/(dr L rn nt x).what=105\/(dr L rn nt x).what=99 from ht)] at h;split at h
  .cases h
  .rename_i e1 l hw;have hw:=AQ hbs hw;injection h with h;injection h with h1 h2;injection h2 with h2 h3;subst h1 h2 h3;refine .same (by omega) hw.2.1 rfl rfl rfl rfl rfl fun a1 a2 a3 a4 a5=>?_;have o:=gS (L:=L) (rn:=rn) (x:=x) (nn:=r.names.length) (rr:=r.ranges) (nt:=nt) (by omega) (by omega) a1 a2 a3 a4 a5;exact ⟨o.adr,o.pts,o.nums,o.rng,o.wh,o.fl,o.st,o.nb,o.pt,o.sp,by simp at hw ⊢;omega,o.nw,o.nh,o.yl,o.yy⟩
 rw [Nr (show ¬ ((dr L rn nt x).what=97\/(dr L rn nt x).what=105\/(dr L rn nt x).what=99) from ht)] at h;by_cases h115:x=115
 .rw [Ny (show (dr L rn nt x).what=115 from h115)] at h;split at h
  .cases h
  .rename_i e1 p hp;have hp:=yM hsz hp;split at h
   .cases h
   .rename_i e2 l hs hn;have hn:=rZ hn ⟨by simp,by simp⟩;have f:=ig hn.2.1 h;have hc2:c2=_:=f.ceq;have hr2:r2=_:=f.req;have hnl:=hn.2.2.1;simp at hnl;refine ⟨by have:=f.ke;omega,f.es,by rw [hr2],by rw [hr2],f.n1,f.n2,fun q=>by rw [hr2];exact q,fun q i hi=>by rw [hr2] at hi;exact NX (q i hi),by rw [hr2];simp,fun q i hi=>by rw [hr2] at hi;exact NX (q i hi),fun q i hi=>by rw [hr2] at hi;exact NX (q i hi),fun d hd=>⟨d,by rw [hr2] at hd;exact hd,.inl rfl⟩,by rw [hc2],by rw [hc2],by rw [hc2],by rw [hc2],by rw [hc2],fun a1 a2 a3 a4 a5=>?_⟩;have nb:=f.nb (NI _);have fl:=f.fl;rw [hc2];refine ⟨a1,a2,a3,a4,a5,fun q=>?_,NI _,nb,fun p2 hp2=>?_,fun _ q=>(by cases q),NI _,by show l.length<=2000;omega,by show hs.length<=2000;omega,rfl,NI _⟩
    .rcases fl with ⟨f1,f2⟩ | f1
     .rcases q with q | q
      .have:x=119:=q;omega
      .exact absurd (by show c2.name.size=0;rw [f1];rfl) q
     .exact f1
    .injection hp2 with hp2;subst hp2;exact ⟨hp.2.2.1,hn.2.2.2⟩
 rw [Nr (show ¬ (dr L rn nt x).what=115 from h115)] at h;by_cases h121:x=121
 .rw [Ny (show (dr L rn nt x).what=121 from h121)] at h;split at h
  .rename_i h47;split at h
   .cases h
   .rename_i e1 l h1;have h1:=tD h1;split at h
    .cases h
    .rename_i e2 l2 h2;have h2:=Mq h2 (by simp);injection h with h;injection h with q1 q2;injection q2 with q2 q3;subst q1 q2 q3;simp at h1;refine .same (by omega) h2.2.1 rfl rfl rfl rfl rfl fun a1 a2 a3 a4 a5=>?_;have o:=gS (L:=L) (rn:=rn) (x:=x) (nn:=r.names.length) (rr:=r.ranges) (nt:=nt) (by omega) (by omega) a1 a2 a3 a4 a5;exact ⟨o.adr,o.pts,o.nums,o.rng,o.wh,o.fl,o.st,o.nb,o.pt,o.sp,o.tx,o.nw,o.nh,h2.2.2.symm,by show l.length<=2000;omega⟩
  .cases h
 rw [Nr (show ¬ (dr L rn nt x).what=121 from h121)] at h;by_cases h113:x=113
 .rw [Ny (show (dr L rn nt x).what=113 from h113)] at h;split at h
  .cases h
  .rename_i e1 v hn;have hn:=yV hbs hn;injection h with h;injection h with q1 q2;injection q2 with q2 q3;subst q1 q2 q3;refine .same (by omega) hn.2.1 rfl rfl rfl rfl rfl fun a1 a2 a3 a4 a5=>?_;have o:=gS (L:=L) (rn:=rn) (x:=x) (nn:=r.names.length) (rr:=r.ranges) (nt:=nt) (by omega) (by omega) a1 a2 a3 a4 a5;exact ⟨o.adr,o.pts,o.nums,o.rng,o.wh,o.fl,hn.2.2.1,o.nb,o.pt,o.sp,o.tx,o.nw,o.nh,o.yl,o.yy⟩
 rw [Nr (show ¬ (dr L rn nt x).what=113 from h113)] at h;by_cases h119:x=119
 .rw [Ny (show (dr L rn nt x).what=119 from h119)] at h;obtain ⟨f,hlt,_⟩:=tH hk h;have hc2:c2=_:=f.ceq;have hr2:r2=_:=f.req;refine ⟨f.ke,f.es,by rw [hr2],by rw [hr2],f.n1,f.n2,fun q=>by rw [hr2];exact q,fun q i hi=>by rw [hr2] at hi;exact NX (q i hi),by rw [hr2];simp,fun q i hi=>by rw [hr2] at hi;exact NX (q i hi),fun q i hi=>by rw [hr2] at hi;exact NX (q i hi),fun d hd=>⟨d,by rw [hr2] at hd;exact hd,.inl rfl⟩,by rw [hc2],by rw [hc2],by rw [hc2],by rw [hc2],by rw [hc2],fun a1 a2 a3 a4 a5=>?_⟩;have nb:=f.nb (NI _);rw [hc2];exact ⟨a1,a2,a3,a4,a5,fun _=>hlt,NI _,nb,fun p2 hp2=>(by cases hp2),fun q=>absurd q h115,NI _,NI _,NI _,rfl,NI _⟩
 rw [Nr (show ¬ (dr L rn nt x).what=119 from h119)] at h;injection h with h;injection h with q1 q2;injection q2 with q2 q3;subst q1 q2 q3;exact .same (Nw _) hk rfl rfl rfl rfl rfl fun a1 a2 a3 a4 a5=>gS h119 h115 a1 a2 a3 a4 a5
structure yj (r:RdS) (k:Nat):Prop where
 cl:r.aE.length<=k
 nl:r.names.length<=k
 rl:r.ranges<=k
 b8:r.blocks.length<=8
 bl:∀ i∈r.blocks,i < r.aE.length
 wl:r.wanted.length<=k
 wi:∀ p∈r.wanted,p.1 < r.aE.length
 li:∀ p∈r.labels,p.2 < r.aE.length
 gl:∀ c∈r.aE,c.goal<=r.aE.length
 ok:∀ c∈r.aE,fR r.names.length r.ranges c
theorem yj.mono {r:RdS} {k l:Nat} (h:yj r k) (hl:k<=l):yj r l:=
 ⟨Nx h.cl hl,Nx h.nl hl,Nx h.rl hl,h.b8,h.bl,Nx h.wl hl,h.wi,h.li,h.gl,h.ok⟩
theorem uV:yj rd0 0:=⟨Nw _,Nw _,Nw _,NI _,fun _ h=>(by cases h),Nw _,fun _ h=>(by cases h),fun _ h=>(by cases h),fun _ h=>(by cases h),fun _ h=>(by cases h)⟩
theorem IK {k e:Nat} {r r2:RdS} (hsz:s.size<=2000) (hk:k<=s.size) (hr:yj r k) (h:cmdE s k r=.ok (e,r2)):yj r2 e/\k < e/\e<=s.size:=by
 unfold cmdE at h;split at h
 .cases h
 .rename_i k1 L ha;have ha:=Co hsz hk ha;have hb1:=qX s k1;have hb2:=eF ha.2.1;obtain ⟨k3,hk3⟩:∃ k3,k3=if saw s (blk s k1) 33=true then blk s (blk s k1+1) else blk s k1:=⟨_,rfl⟩;obtain ⟨r1,hr1⟩:∃ r1,r1=if L.length=2 then { r with ranges:=r.ranges+1 } else r:=⟨_,rfl⟩;dsimp only at h;rw [<-hk3,<-hr1] at h;have hk13:k1<=k3:=by
   rw [hk3];split
   .have:=qX s (blk s k1+1);omega
   .omega
  split at h
  .rename_i hlt;split at h
   .cases h
   .rename_i hwh;split at h
    .cases h
    .split at h
     .cases h
     .rename_i e1 rr c ho;have o:=Bu hsz (by omega) ho;have hwh:jj.contains (s[k3]'hlt).toNat=true:=by simpa using hwh
      have e1':r1.aE=r.aE/\r1.names=r.names/\r1.blocks=r.blocks/\r1.wanted=r.wanted/\r1.labels=r.labels/\r.ranges<=r1.ranges/\r1.ranges<=r.ranges+1/\(L.length=2->r.ranges < r1.ranges):=by
       rw [hr1];split
       .exact ⟨rfl,rfl,rfl,rfl,rfl,by simp,by simp,fun _=>by simp⟩
       .exact ⟨rfl,rfl,rfl,rfl,rfl,by simp,by simp,fun q=>by omega⟩
      obtain ⟨q1,q2,q3,q4,q5,q6,q7,q8⟩:=e1'
      have ok2:fR rr.names.length r1.ranges c:=o.ok ha.2.2.1 ha.2.2.2.1 ha.2.2.2.2 (fun q=>by
       show (if L.length=2 then r.ranges else 0) < _;rw [Ny (show L.length=2 from q)]
       exact q8 q) hwh
      have ke:=o.ke;have es:=o.es;have fin:∀ e',e1<=e'->yj { rr with aE:=rr.aE++[c] } e':=by
       intro e' he';have hcl:=hr.cl;have hnl:=hr.nl;have hrl:=hr.rl;have hwl:=hr.wl;have ocl:=o.cl;have on2:=o.n2;have owl:=o.wl;have org:=o.rg;rw [q1] at ocl;rw [q2] at on2;rw [q4] at owl;refine ⟨by simp;omega,by show rr.names.length<=_;omega,by show rr.ranges<=_;omega,o.b8 (by rw [q3];exact hr.b8),fun i hi=>?_,by show rr.wanted.length<=_;omega,fun p hp=>?_,fun p hp=>?_,fun d hd=>?_,fun d hd=>?_⟩
       .have:=o.bl (by rw [q1,q3];exact hr.bl) i hi;rw [q1] at this;simp;omega
       .have:=o.wi (by rw [q1,q4];exact hr.wi) p hp;rw [q1] at this;simp;omega
       .have:=o.li (by rw [q1,q5];exact hr.li) p hp;rw [q1] at this;simp;omega
       .simp only [Nu,NQ,OX];rcases List.mem_append.1 hd with q | q
        .obtain ⟨d0,hd0,q | q⟩:=o.cs d q
         .subst q;rw [q1] at hd0;have:=hr.gl d hd0;omega
         .subst q;show r1.aE.length<=_;rw [q1];omega
        .simp at q;subst q;rw [o.cg];exact NI _
       .show fR rr.names.length rr.ranges d;rw [org];rcases List.mem_append.1 hd with q | q
        .obtain ⟨d0,hd0,q | q⟩:=o.cs d q
         .subst q;rw [q1] at hd0;exact (hr.ok d hd0).mono (by rw [<-q2];exact o.n1) q6
         .subst q;rw [q1] at hd0;exact ((hr.ok d0 hd0).mono (by rw [<-q2];exact o.n1) q6).goal _
        .simp at q;subst q;exact ok2
      split at h
      .injection h with h;injection h with h1 h2;subst h1 h2;exact ⟨fin e1 (Nw _),by omega,by omega⟩
      .split at h
       .injection h with h;injection h with h1 h2;subst h1 h2;exact ⟨fin _ (qX s e1),by have:=qX s e1;omega,eF es⟩
       .cases h
  .cases h
theorem tN:∀ (n k:Nat),k<=Ju s n k/\(k<=s.size->Ju s n k<=s.size)
 | 0,k=>⟨Nw _,fun h=>h⟩
 | n+1,k=>by
  unfold Ju;split
  .have:=tN n (k+1);exact ⟨by omega,fun _=>this.2 (by omega)⟩
  .exact ⟨Nw _,fun h=>h⟩
theorem lC:∀ (n k:Nat),k<=Ck s n k/\(k<=s.size->Ck s n k<=s.size)
 | 0,k=>⟨Nw _,fun h=>h⟩
 | n+1,k=>by
  unfold Ck;split
  .have h1:=tN (s:=s) (s.size+1) k;have:=lC n (Ju s (s.size+1) k);exact ⟨by omega,fun q=>this.2 (h1.2 q)⟩
  .split
   .rename_i h;have hlt:k < s.size:=by
     simp only [Pe] at h;rcases h with (h | h) | h
     .exact aM h
     .exact aM h
     .exact xq h
    have:=lC n (k+1);exact ⟨by omega,fun _=>this.2 (by omega)⟩
   .exact ⟨Nw _,fun h=>h⟩
theorem Ci (hsz:s.size<=2000):∀ {n k:Nat} {r r2:RdS},k<=s.size->yj r k->cmdsE s n k r=.ok r2->yj r2 s.size
 | 0,_,_,_,_,_,h=>by cases h
 | n+1,k,r,r2,hk,hr,h=>by
  unfold cmdsE at h;have hb:=lC (s:=s) (s.size+1) k;split at h
  .split at h
   .cases h
   .rename_i e r1 hc;have:=IK hsz (hb.2 hk) (hr.mono hb.1) hc;exact Ci hsz this.2.2 this.1 h
  .injection h with h;subst h;exact hr.mono hk
theorem oK {k:Nat}:∀ {l:List (Nat×Nat)} {r r2:RdS},yj r k->goalsE l r=.ok r2->yj r2 k/\r2={ r with aE:=r2.aE }/\r2.aE.length=r.aE.length
 | [],_,_,hr,h=>by
  injection h with h;subst h;exact ⟨hr,rfl,rfl⟩
 | (i,pl)::l,r,r2,hr,h=>by
  unfold goalsE at h;have key:∀ (c:du) (g:Nat),r.aE[i]? = some c->g<=r.aE.length->yj { r with aE:=r.aE.set i { c with goal:=g } } k:=by
   intro c g hc hg;have hm:c∈r.aE:=NO hc;have hlen:(r.aE.set i { c with goal:=g }).length=r.aE.length:=Od;refine ⟨by rw [hlen];exact hr.cl,hr.nl,hr.rl,hr.b8,fun j hj=>by rw [hlen];exact hr.bl j hj,hr.wl,fun j hj=>by rw [hlen];exact hr.wi j hj,fun j hj=>by rw [hlen];exact hr.li j hj,fun d hd=>?_,fun d hd=>?_⟩
   .rw [hlen];rcases Oq hd with q | q
    .exact hr.gl d q
    .subst q;exact hg
   .rcases Oq hd with q | q
    .exact hr.ok d q
    .subst q;exact (hr.ok c hm).goal g
  split at h
  .cases h
  .rename_i c hc;split at h
   .obtain ⟨h1,h2,h3⟩:=oK (key c _ hc (Nw _)) h;refine ⟨h1,?_,by rw [h3];simp⟩;rw [h2]
   .split at h
    .cases h
    .rename_i y n hf;have:=hr.li _ (List.mem_of_find?_eq_some hf);obtain ⟨h1,h2,h3⟩:=oK (key c n hc (by omega)) h;refine ⟨h1,?_,by rw [h3];simp⟩;rw [h2]
structure pd (S:fj):Prop where
 cl:S.aE.length<=2000
 nl:S.names.length<=2000
 rl:S.ranges<=2000
 gl:∀ c∈S.aE,c.goal<=S.aE.length
 ok:∀ c∈S.aE,fR S.names.length S.ranges c
theorem Fo {S:fj} (h:scrE s=.ok S):pd S:=by
 unfold scrE at h;split at h
 .cases h
 .split at h
  .cases h
  .rename_i r hc;have hr:=Ci (by omega) (NI _) uV hc;split at h
   .cases h
   .split at h
    .cases h
    .rename_i r2 hg;have h2:=(oK hr hg).1;injection h with h;subst h;exact ⟨by have:=h2.cl;show r2.aE.length<=_;omega,by have:=h2.nl;show r2.names.length<=_;omega,by have:=h2.rl;show r2.ranges<=_;omega,h2.gl,h2.ok⟩
end
