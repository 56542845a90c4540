import Derived.Test.YtiahkfoojjpaaaaGreatDoorT49
import Derived.Test.YtiahkfoojjpaaaaGreatDoorT48
set_option maxRecDepth 100000
set_option maxHeartbeats 16000000
set_option linter.all false
namespace Go.Proofs.YtiahkfoojjpaaaaGreatDoor
open Go.RowKit
section
variable {S:fj} {E:Nat} {Q:Ust->Prop} {u u1 u2 v:Ust} {c:du}
def Gvs (S:fj) (E:Nat) (Q:Ust->Prop) (u:Ust):Prop:=∃ K0,∀ K,K0<=K->∃ v,Ust.runF S K u=.error (E,v)/\Q v
theorem Gvs.step (ho:u.over=false) (hs:u.aI=.ok (some u1)) (hl:u1.look S=.ok u2) (h:Gvs S E Q u2):Gvs S E Q u:=by
 obtain ⟨K0,h⟩:=h;refine ⟨K0+1,fun K hK=>?_⟩
 match K,hK with
 | K+1,hK=>
  rw [gY ho hs hl];exact h K (by omega)
theorem Gvs.stop (ho:u.over=false) (hs:u.aI=.ok (some u1)) (hl:u1.look S=.error (E,v)) (hq:Q v):Gvs S E Q u:=by
 refine ⟨1,fun K hK=>?_⟩
 match K,hK with
 | K+1,hK=>
  refine ⟨v,?_,hq⟩;rw [Ust.runF,Nr (by rw [ho];simp),hs];dsimp only;rw [hl]
theorem Gvs.sup (ho:u.over=false) (hs:u.aI=.error (E,v)) (hq:Q v):Gvs S E Q u:=by
 refine ⟨1,fun K hK=>?_⟩
 match K,hK with
 | K+1,hK=>
  refine ⟨v,?_,hq⟩;rw [Ust.runF,Nr (by rw [ho];simp),hs]
theorem xI {d:List UInt8} (hP:pd S) (hd:d.length<=100000) (h:Gvs S E Q { fX S.ahead S.names.length S.ranges with left:=d }) :
  ∃ v,Q v/\((fX S.ahead S.names.length S.ranges).feed S d).1=⟨v.out,true,E,v.status⟩/\(((fX S.ahead S.names.length S.ranges).feed S d).2.end_ S).1=⟨[],true,E,v.status⟩:=by
 obtain ⟨K0,h⟩:=h;have hi:lV S (fX S.ahead S.names.length S.ranges):=by
  rcases AM hP S.ahead with ⟨q,_⟩ | ⟨_,q⟩
  .cases q
  .exact q
 have hi2:=hi.more (d:=d) (by show 0+d.length+0<=_;omega);have hi3:lV S { fX S.ahead S.names.length S.ranges with left:=d }:=hi2;obtain ⟨v,hv,hq⟩:=h (K0+(({ fX S.ahead S.names.length S.ranges with left:=d }:Ust).Ea S.aE.length+1)) (by omega);have hr:=run_by hP hi3 (k:=K0+(({ fX S.ahead S.names.length S.ranges with left:=d }:Ust).Ea S.aE.length+1)) (by omega);rw [hv] at hr;have hf:(fX S.ahead S.names.length S.ranges).feed S d=({ v with over:=true,err:=E }:Ust).jW:=by
  rw [Lm rfl];show (({ fX S.ahead S.names.length S.ranges with left:=d }:Ust).run S).jW=_;rw [hr]
  rfl
 refine ⟨v,hq,by rw [hf];rfl,?_⟩;rw [hf];unfold Ust.end_;rw [Ny (show ({ v with over:=true,err:=E }:Ust).jW.2.over=true from rfl)]
 rfl
theorem dX (h:u.aH=.no):u.aI=.ok (some u):=by rw [iR,Ny h]
theorem yY (hc:S.aE[u.pc]? = some c) (h:c.what=58):u.look S=.ok { u with pc:=u.pc+1 }:=by
 unfold Ust.look;rw [hc];dsimp only;rw [Ny (.inr h)]
theorem look_7 (hc:S.aE[u.pc]? = some c) (h1:c.what≠125) (h2:c.what≠58) (hs:2000<=u.steps):u.look S=.error (7,{ u with pc:=u.pc+1,steps:=u.steps+1 }):=by
 unfold Ust.look;rw [hc];dsimp only;rw [Nr (by rintro (e | e) <;> contradiction),Ny (by omega)]
theorem iL (hc:S.aE[u.pc]? = some c) (h1:c.what≠125) (h2:c.what≠58) (h3:c.fq=[]) (h4:c.neg=false) (hs:u.steps < 2000):u.look S=({ u with pc:=u.pc+1,steps:=u.steps+1 }:Ust).fW S.quiet c:=by
 unfold Ust.look;rw [hc];dsimp only;rw [Nr (by rintro (e | e) <;> contradiction),Nr (by omega)];unfold Ust.addressed;rw [h3];dsimp only;rw [h4,Ny (by rfl)]
end
structure Shp where
 what:Nat
 goal:Nat
 fq:Nat
 neg:Bool
 print:Bool
 name:Nat
 text:List UInt8
deriving DecidableEq
def shp (c:du):Shp:=⟨c.what,c.goal,c.fq.length,c.neg,c.print,c.name.size,c.text.plain⟩
theorem fY {S:fj} {L:List Shp} (h:S.aE.map shp=L) {i:Nat} {x:Shp} (hx:L[i]? = some x):∃ c,S.aE[i]? = some c/\shp c=x:=by
 rw [<-h,NY] at hx
 cases hc:S.aE[i]? with
 | none=>rw [hc] at hx;cases hx
 | some c=>
  rw [hc] at hx;injection hx with hx;exact ⟨c,rfl,hx⟩
section
variable {q:Ptn} {t:ByteArray}
theorem AZ (h2:(q.cd q.bg).kind=2) (h6:(q.cd (q.cd q.bg).nx).kind=6) (hne:(q.cd q.bg).nx≠q.bg) (hb:q.bg < q.n) :
  ∀ (k pl:Nat),pl+k=t.size->∀ s:Mc,s.fd=false->s.left=[]->s.ahead=[]->(∀ v,pl * q.n * (q.D+1)<=v->s.sn v=false) ->
   ∃ s',Runs q.cd q.n q.D t q.bg (k+1) pl [] s s'/\s'.fd=true/\s'.dQ 0=(t.size:Int)/\s'.dQ 1=(t.size:Int)
 | k,pl,hk,s,hf,hl,ha,hm=>by
  have hT:(if s.fd=true then ([]:List Thr) else []++[⟨q.bg,0,nz pl⟩])=[⟨q.bg,0,nz pl⟩]:=by rw [Nr (by rw [hf];simp)];rfl
  have sA:seenAt q.n q.D pl ⟨q.bg,0,nz pl⟩=(pl * q.n+q.bg) * (q.D+1):=rfl;have hns:¬ s.sn (seenAt q.n q.D pl ⟨q.bg,0,nz pl⟩)=true:=by
   rw [hm _ (by rw [sA];exact NL _ (O7 _ _))];simp
  match k,hk with
  | 0,hk=>
   have hpl:pl=t.size:=by omega
   have sB:seenAt q.n q.D pl ⟨(q.cd q.bg).nx,0,nz pl⟩=(pl * q.n+(q.cd q.bg).nx) * (q.D+1):=rfl;have hns2:¬ more s.sn (seenAt q.n q.D pl ⟨q.bg,0,nz pl⟩) (seenAt q.n q.D pl ⟨(q.cd q.bg).nx,0,nz pl⟩)=true:=by
    unfold more;rw [hm _ (by rw [sB];exact NL _ (O7 _ _)),O0,sA,sB,beq_iff_eq];intro e;have:=Nat.eq_of_mul_eq_mul_right (Nat.succ_pos _) e;omega
   have G:ir q.cd q.n q.D t pl (some ⟨q.bg,0,nz pl⟩) s { s with sn:=more (more s.sn (seenAt q.n q.D pl ⟨q.bg,0,nz pl⟩)) (seenAt q.n q.D pl ⟨(q.cd q.bg).nx,0,nz pl⟩),fd:=true,dQ:=nu (nz pl) 1 pl }:=by
    refine jy hns ?_;have e1:aJ q.cd t pl ⟨q.bg,0,nz pl⟩ { s with sn:=more s.sn (seenAt q.n q.D pl ⟨q.bg,0,nz pl⟩) }=(some ⟨(q.cd q.bg).nx,0,nz pl⟩,{ s with sn:=more s.sn (seenAt q.n q.D pl ⟨q.bg,0,nz pl⟩) }):=by
     unfold aJ;simp only [h2,hpl,reduceIte,Nat.reduceEqDiff]
    rw [e1];refine jy (s:={ s with sn:=more s.sn (seenAt q.n q.D pl ⟨q.bg,0,nz pl⟩) }) hns2 ?_;unfold aJ;simp only [h6,reduceIte,Nat.reduceEqDiff];exact oJ hl
   refine ⟨{ s with sn:=more (more s.sn (seenAt q.n q.D pl ⟨q.bg,0,nz pl⟩)) (seenAt q.n q.D pl ⟨(q.cd q.bg).nx,0,nz pl⟩),fd:=true,dQ:=nu (nz pl) 1 pl,ahead:=[] },?_,rfl,?_,?_⟩
   .rw [Runs,hT];refine .inr ⟨by simp,{ s with sn:=more (more s.sn (seenAt q.n q.D pl ⟨q.bg,0,nz pl⟩)) (seenAt q.n q.D pl ⟨(q.cd q.bg).nx,0,nz pl⟩),fd:=true,dQ:=nu (nz pl) 1 pl },?_,?_⟩
    .rw [Sweep];exact .inr ⟨by rw [hf];simp,_,G,by rw [Sweep]⟩
    .rw [Runs]
   .show nu (nz pl) 1 pl 0=_;rw [hpl]
    rfl
   .show nu (nz pl) 1 pl 1=_;rw [hpl]
    rfl
  | k+1,hk=>
   have hpl:¬ pl=t.size:=by omega
   have G:ir q.cd q.n q.D t pl (some ⟨q.bg,0,nz pl⟩) s { s with sn:=more s.sn (seenAt q.n q.D pl ⟨q.bg,0,nz pl⟩) }:=by
    refine jy hns ?_;unfold aJ;simp only [h2,hpl,reduceIte,Nat.reduceEqDiff];exact oJ hl
   obtain ⟨s',r1,r2⟩:=AZ h2 h6 hne hb k (pl+1) (by omega) { s with sn:=more s.sn (seenAt q.n q.D pl ⟨q.bg,0,nz pl⟩),ahead:=[] } hf hl rfl (fun v hv=>by
    show more s.sn _ v=false;unfold more;have h1:(pl * q.n+q.bg) * (q.D+1) < (pl+1) * q.n * (q.D+1):=Nat.mul_lt_mul_of_pos_right (by rw [NZ];omega) (Nat.succ_pos _);have h3:pl * q.n * (q.D+1)<=(pl+1) * q.n * (q.D+1):=NL _ (NL _ (by omega));rw [hm v (by omega),O0,sA,Nz]
    omega)
   refine ⟨s',?_,r2⟩;rw [Runs,hT];refine .inr ⟨by simp,{ s with sn:=more s.sn (seenAt q.n q.D pl ⟨q.bg,0,nz pl⟩) },?_,?_⟩
   .rw [Sweep];exact .inr ⟨by rw [hf];simp,_,G,by rw [Sweep]⟩
   .rw [show ({ s with sn:=more s.sn (seenAt q.n q.D pl ⟨q.bg,0,nz pl⟩) }:Mc).ahead=[] from ha];exact r1
theorem JM (h2:(q.cd q.bg).kind=2) (h6:(q.cd (q.cd q.bg).nx).kind=6) (hne:(q.cd q.bg).nx≠q.bg) (hb:q.bg < q.n):(ud q t 0 mc0).fd=true/\(ud q t 0 mc0).dQ 0=(t.size:Int)/\(ud q t 0 mc0).dQ 1=(t.size:Int):=by
 obtain ⟨s',r,h⟩:=AZ (t:=t) h2 h6 hne hb t.size 0 (by omega) { mc0 with fd:=false } rfl rfl rfl (fun _ _=>rfl);have e:ud q t 0 mc0=s':=jS r;rw [e];exact h
theorem Gc {c:du} {sp:List UInt8} (hp:c.pat=some q) (ha:c.all=false) (hn:c.number=0) (hh:c.di=[]) (h2:(q.cd q.bg).kind=2) (h6:(q.cd (q.cd q.bg).nx).kind=6) (hne:(q.cd q.bg).nx≠q.bg) (hb:q.bg < q.n):gH c sp=some (sp++c.new.plain):=by
 obtain ⟨s1,s2,s3⟩:=JM (t:=ba sp) h2 h6 hne hb;rw [ax] at s2 s3;have e:∃ bs,q.C5 sp=(ud q (ba sp) 0 mc0).dQ::bs:=by
  unfold Ptn.C5;rw [plcF,s1,Ny rfl];exact ⟨_,rfl⟩
 obtain ⟨bs,e⟩:=e;unfold gH;rw [hp];dsimp only;have e2:replL c sp (q.C5 sp) ⟨0,[],0,false⟩=⟨1,sp++c.new.plain,sp.length,true⟩:=by
  rw [e,replL,Nr (by omega)];dsimp only;rw [Ny (.inl ha),s2,s3,hh,fillL];simp
 rw [e2];simp
end
def dN (b:ByteArray):fj:=match scrE b with
 | .ok S=>S
 | .error _=>⟨false,[],[],0⟩
theorem nT {b:ByteArray} (h:(match scrE b with | .ok _=>true | .error _=>false)=true):scrE b=.ok (dN b):=by
 unfold dN
 cases hs:scrE b with
 | error q=>rw [hs] at h;cases h
 | ok S=>rfl
abbrev Ec:ByteArray:=⟨#[58,97,59,98,32,97]⟩
abbrev xM:ByteArray:=⟨#[115,47,36,47,38,48,49,50,51,52,53,54,55,56,57,47,59,58,97,59,71,59,104,59,98,32,97]⟩
abbrev MY:ByteArray:=⟨#[112]⟩
abbrev ue:ByteArray:=⟨#[105,32,120,10,58,97,59,115,47,36,47,48,49,50,51,52,53,54,55,56,57,48,49,50,51,52,53,54,55,56,57,48,49,50,51,52,53,54,55,56,57,48,49,50,51,52,53,54,55,56,57,47,59,112,59,98,32,97]⟩
abbrev xL:ByteArray:=⟨#[112,59,112,59,112,59,112,59,112,59,112,59,112,59,112,59,112,59,112,59,112,59,112,59,112,59,112,59,112,59,112,59,112,59,112,59,112,59,112,59]⟩
theorem en_scr0:scrE Ec=.ok (dN Ec):=nT (by decide +kernel)
theorem en_scr1:scrE xM=.ok (dN xM):=nT (by decide +kernel)
theorem en_scr2:scrE MY=.ok (dN MY):=nT (by decide +kernel)
theorem en_scr3:scrE ue=.ok (dN ue):=nT (by decide +kernel)
theorem Iu:scrE xL=.ok (dN xL):=nT (by decide +kernel)
section
variable {S:fj} {E:Nat} {Q:Ust->Prop} {u u1 u2 v:Ust} {c:du}
theorem Gvs.sup1 (ho:u.over=false) (ho1:u1.over=false) (hs:u.aI=.ok (some u1)) (hw:u1.aH=.no) (h:Gvs S E Q u1):Gvs S E Q u:=by
 obtain ⟨K0,h⟩:=h;refine ⟨K0+1,fun K hK=>?_⟩;obtain ⟨v,h1,h2⟩:=h K (by omega);refine ⟨v,?_,h2⟩
 match K,hK with
 | K+1,hK=>
  rw [Ust.runF,Nr (by rw [ho1];simp),dX hw] at h1;rw [Ust.runF,Nr (by rw [ho];simp),hs];exact h1
theorem dd_b {q:Bool} (h:c.what=98):u.fW q c=.ok { u with pc:=c.goal }:=by
 unfold Ust.fW;rw [Nr (by omega),Ny h]
theorem dd_p {q:Bool} (h:c.what=112):u.fW q c=u.tell u.space:=by
 unfold Ust.fW;simp only [h,reduceIte,Nat.reduceEqDiff]
theorem dd_i {q:Bool} (h:c.what=105):u.fW q c=u.tell c.text.plain:=by
 unfold Ust.fW;simp only [h,reduceIte,Nat.reduceEqDiff]
theorem dd_s {q:Bool} (h:c.what=115):u.fW q c=u.replace c:=by
 unfold Ust.fW;simp only [h,reduceIte,Nat.reduceEqDiff]
theorem dd_G {q:Bool} (h:c.what=71):u.fW q c=Ust.gM u.space u.held (fun t=>{ u with space:=t }) u:=by
 unfold Ust.fW;simp only [h,reduceIte,Nat.reduceEqDiff]
theorem dd_h {q:Bool} (h:c.what=104):u.fW q c=.ok { u with held:=u.space }:=by
 unfold Ust.fW;simp only [h,reduceIte,Nat.reduceEqDiff]
theorem Gb {t:List UInt8} (hr:gH c u.space=some t) (ht:t.length<=4000) (hp:c.print=false) (hn:c.name.size=0):u.replace c=.ok { u with space:=t,fN:=true }:=by
 rw [gj];show (match gH c u.space with | none=>_ | some t=>_)=_;rw [hr];dsimp only;rw [Nr (by omega),hp,Nr (by simp)];show gC c _=_;unfold gC;rw [Ny hn]
theorem JX {t:List UInt8} (hr:gH c u.space=some t) (ht:4000 < t.length):u.replace c=.error (8,u):=by
 rw [gj];show (match gH c u.space with | none=>_ | some t=>_)=_;rw [hr];dsimp only;rw [Ny ht]
theorem yq {t:List UInt8} (h:u.count+t.length+1<=200000):u.tell t=.ok { u with count:=u.count+t.length+1,out:=u.out++t++[10] }:=by
 unfold Ust.tell;rw [Nr (by omega)]
def st1 (nf nr:Nat) (l r:List UInt8) (n:Nat):Ust:={ fX false nf nr with left:=r,number:=n,aH:=.no,space:=l }
theorem zG (nf nr:Nat):({ fX false nf nr with left:=[120,10] }:Ust).aI=.ok (some (st1 nf nr [120] [] 1)):=rfl
end
theorem Ir:(dN Ec).aE.map shp=[⟨58,0,0,false,false,0,[]⟩,⟨98,0,0,false,false,0,[]⟩]:=by decide +kernel
theorem loop0:∀ (m:Nat) (u:Ust),u.steps+m=2000->u.over=false->u.aH=.no->u.pc=0->u.status=0->Gvs (dN Ec) 7 (fun v=>v.status=0) u
 | m,u,hs,ho,hw,hp,ht=>by
  obtain ⟨c0,h0,e0⟩:=fY Ir (i:=0) rfl;obtain ⟨c1,h1,e1⟩:=fY Ir (i:=1) rfl;have w0:c0.what=58:=congrArg Shp.what e0;have w1:c1.what=98:=congrArg Shp.what e1;refine Gvs.step ho (dX hw) (yY (by rw [hp];exact h0) w0) ?_;have hp1:u.pc+1=1:=by omega
  match m,hs with
  | 0,hs=>exact Gvs.stop ho (dX hw) (look_7 (u:={ u with pc:=u.pc+1 }) (by show (dN Ec).aE[u.pc+1]? = _;rw [hp1];exact h1) (by rw [w1];omega) (by rw [w1];omega) (by show 2000<=u.steps;omega)) ht
  | m+1,hs=>
   refine Gvs.step ho (dX hw) ((iL (u:={ u with pc:=u.pc+1 }) (by show (dN Ec).aE[u.pc+1]? = _;rw [hp1];exact h1) (by rw [w1];omega) (by rw [w1];omega) (NN (congrArg Shp.fq e1)) (congrArg Shp.neg e1) (by show u.steps < 2000;omega)).trans (dd_b w1)) ?_;exact loop0 m _ (by show u.steps+1+m=2000;omega) ho hw (congrArg Shp.goal e1) ht
theorem Lv:(dN Ec).ahead=false/\(dN xM).ahead=false/\(dN MY).ahead=false/\(dN ue).ahead=false/\(dN xL).ahead=false:=by decide +kernel
theorem ends0:Gvs (dN Ec) 7 (fun v=>v.status=0) { fX (dN Ec).ahead (dN Ec).names.length (dN Ec).ranges with left:=[120,10] }:=by
 rw [Lv.1];exact Gvs.sup1 rfl rfl (zG _ _) rfl (loop0 2000 _ rfl rfl rfl rfl rfl)
theorem oP:(dN xM).aE.map shp=[⟨115,0,0,false,false,0,[]⟩,⟨58,0,0,false,false,0,[]⟩,⟨71,0,0,false,false,0,[]⟩,⟨104,0,0,false,false,0,[]⟩,⟨98,1,0,false,false,0,[]⟩]:=by decide +kernel
theorem en_rep1:((dN xM).aE[0]?.map fun c=>uT 50 c [120])=some (some (some [120,48,49,50,51,52,53,54,55,56,57])):=by decide +kernel
def P1 (a b n:Nat):Prop:=∀ u:Ust,u.over=false->u.aH=.no->u.pc=1->u.status=0->u.space.length=a->u.held.length=b->u.steps=n->Gvs (dN xM) 8 (fun v=>v.status=0) u
theorem p1_at {a b n:Nat} (hn:n < 1900) (h:4000 < a+1+b\/P1 (a+1+b) (a+1+b) (n+3)):P1 a b n:=by
 intro u ho hw hp ht ha hb hs;obtain ⟨c1,h1,e1⟩:=fY oP (i:=1) rfl;obtain ⟨c2,h2,e2⟩:=fY oP (i:=2) rfl;obtain ⟨c3,h3,e3⟩:=fY oP (i:=3) rfl;obtain ⟨c4,h4,e4⟩:=fY oP (i:=4) rfl;have w1:c1.what=58:=congrArg Shp.what e1;have w2:c2.what=71:=congrArg Shp.what e2;have w3:c3.what=104:=congrArg Shp.what e3;have w4:c4.what=98:=congrArg Shp.what e4;refine Gvs.step ho (dX hw) (yY (by rw [hp];exact h1) w1) ?_;have q2:(dN xM).aE[u.pc+1]? = some c2:=by rw [hp];exact h2
 have lk:=(iL (u:={ u with pc:=u.pc+1 }) q2 (by rw [w2];omega) (by rw [w2];omega) (NN (congrArg Shp.fq e2)) (congrArg Shp.neg e2) (by show u.steps < 2000;omega)).trans (dd_G w2);have hl:(u.space++10::u.held).length=a+1+b:=by simp [ha,hb];omega
 have er:4000 < a+1+b->Ust.gM u.space u.held (fun t=>({ u with pc:=u.pc+1+1,steps:=u.steps+1,space:=t }:Ust)) { u with pc:=u.pc+1+1,steps:=u.steps+1 }=.error (8,{ u with pc:=u.pc+1+1,steps:=u.steps+1 }):=fun q=>by
  unfold Ust.gM;rw [Ny (by omega)]
 rcases h with h | h
 .exact Gvs.stop ho (dX hw) (lk.trans (er (by omega))) ht
 .by_cases h4k:4000 < a+1+b
  .exact Gvs.stop ho (dX hw) (lk.trans (er h4k)) ht
  .refine Gvs.step ho (dX hw) (lk.trans (by unfold Ust.gM;rw [Nr (by show ¬ 4000 < (u.space++10::u.held).length;omega)])) ?_;have q3:(dN xM).aE[u.pc+1+1]? = some c3:=by rw [hp];exact h3
   refine Gvs.step ho (dX hw) ((iL (u:={ u with pc:=u.pc+1+1,steps:=u.steps+1,space:=u.space++10::u.held }) q3 (by rw [w3];omega) (by rw [w3];omega) (NN (congrArg Shp.fq e3)) (congrArg Shp.neg e3) (by show u.steps+1 < 2000;omega)).trans (dd_h w3)) ?_;have q4:(dN xM).aE[u.pc+1+1+1]? = some c4:=by rw [hp];exact h4
   refine Gvs.step ho (dX hw) ((iL (u:={ u with pc:=u.pc+1+1+1,steps:=u.steps+1+1,space:=u.space++10::u.held,held:=u.space++10::u.held }) q4 (by rw [w4];omega) (by rw [w4];omega) (NN (congrArg Shp.fq e4)) (congrArg Shp.neg e4) (by show u.steps+1+1 < 2000;omega)).trans (dd_b w4)) ?_;exact h _ ho hw (congrArg Shp.goal e4) ht hl hl (by show u.steps+1+1+1=n+3;omega)
theorem ends1:Gvs (dN xM) 8 (fun v=>v.status=0) { fX (dN xM).ahead (dN xM).names.length (dN xM).ranges with left:=[120,10] }:=by
 rw [Lv.2.1];refine Gvs.sup1 rfl rfl (zG _ _) rfl ?_;obtain ⟨c0,h0,e0⟩:=fY oP (i:=0) rfl;have w0:c0.what=115:=congrArg Shp.what e0;have r:=en_rep1;rw [h0] at r;simp only [OJ,Option.some.injEq] at r;have r:=oa r;refine Gvs.step rfl (dX rfl) ((iL (u:=st1 (dN xM).names.length (dN xM).ranges [120] [] 1) (show (dN xM).aE[0]? = some c0 from h0) (by rw [w0];omega) (by rw [w0];omega) (NN (congrArg Shp.fq e0)) (congrArg Shp.neg e0) (by show 0 < 2000;omega)).trans ((dd_s w0).trans (Gb r (by decide) (congrArg Shp.print e0) (congrArg Shp.name e0)))) ?_;have k:P1 11 0 1:=by
  iterate 9 refine p1_at (by omega) (.inr ?_)
  exact p1_at (by omega) (.inl (by omega))
 exact k _ rfl rfl rfl rfl rfl rfl rfl
theorem IB {l r:List UInt8} (h:(10:UInt8)∉l):cutL (l++10::r)=(l,some r):=by
 induction l with
 | nil=>rfl
 | cons c l ih=>rw [Om,cutL,Nr (fun e=>h (by rw [e];exact List.mem_cons_self)),ih (fun q=>h (OG _ q))]
theorem JI {u:Ust} (hw:u.aH≠.no) (h:1000 < (cutL u.left).1.length):u.aI=.error (9,u):=by
 rw [iR,Nr hw];unfold Ust.sup;rw [Ny h]
theorem MD (n:Nat):(10:UInt8)∉List.replicate n (0:UInt8):=fun h=>by
 have:=List.eq_of_mem_replicate h
 revert this
 decide
theorem ends2 {Z:List UInt8} (hZ:Z=List.replicate 1001 0):Gvs (dN MY) 9 (fun v=>v.status=0) { fX (dN MY).ahead (dN MY).names.length (dN MY).ranges with left:=Z++[120,10] }:=by
 have hl:Z.length=1001:=by rw [hZ,OB]
 have hn:(10:UInt8)∉Z++[120]:=fun h=>by
  rcases List.mem_append.1 h with q | q
  .rw [hZ] at q;exact MD _ q
  .revert q
   decide
 have e:cutL (Z++[120,10])=(Z++[120],some []):=by
  rw [show Z++[120,10]=(Z++[120])++10::[] from (NP _ [120] [10]).symm];exact IB hn
 refine Gvs.sup rfl (JI (fun q=>by cases q) ?_) rfl;show 1000 < (cutL (Z++[120,10])).1.length;rw [e,Nu,hl];show 1000 < 1001+1;omega
theorem oO:(dN ue).aE.map shp=[⟨105,0,0,false,false,0,[120]⟩,⟨58,0,0,false,false,0,[]⟩,⟨115,0,0,false,false,0,[]⟩,⟨112,0,0,false,false,0,[]⟩,⟨98,1,0,false,false,0,[]⟩]:=by decide +kernel
def rep3B (c:du):Bool:=(match c.pat with | some q=>(q.cd q.bg).kind == 2 && (q.cd (q.cd q.bg).nx).kind == 6 && !((q.cd q.bg).nx == q.bg) && decide (q.bg < q.n) | none=>false) && !c.all && c.number == 0 && c.di.isEmpty && c.new.plain.length == 40
theorem en_rep3:((dN ue).aE[2]?.map rep3B)=some true:=by decide +kernel
theorem rep3 {c:du} (hc:(dN ue).aE[2]? = some c):c.new.plain.length=40/\∀ sp,gH c sp=some (sp++c.new.plain):=by
 have r:=en_rep3;rw [hc,OJ] at r;injection r with r;unfold rep3B at r;simp only [Oj,Bool.not_eq_true',beq_iff_eq,List.isEmpty_iff] at r;obtain ⟨⟨⟨⟨r1,r2⟩,r3⟩,r4⟩,r5⟩:=r;refine ⟨r5,fun sp=>?_⟩
 cases hp:c.pat with
 | none=>rw [hp] at r1;cases r1
 | some q=>
  rw [hp] at r1;simp only [Oj,Bool.not_eq_true',beq_iff_eq,Nz,decide_eq_true_eq] at r1;exact Gc hp r2 r3 r4 r1.1.1.1 r1.1.1.2 r1.1.2 r1.2
theorem loop3:∀ (m k X:Nat) (u:Ust),k+m=99->k * (k+1)=X->u.over=false->u.aH=.no->u.pc=1->u.status=0->u.space.length=1+40 * k->u.count=2+2 * k+20 * X->u.steps=1+3 * k->Gvs (dN ue) 8 (fun v=>v.status=0) u
 | m,k,X,u,hk,hX,ho,hw,hp,ht,hl,hc,hs=>by
  obtain ⟨c1,h1,e1⟩:=fY oO (i:=1) rfl;obtain ⟨c2,h2,e2⟩:=fY oO (i:=2) rfl;obtain ⟨c3,h3,e3⟩:=fY oO (i:=3) rfl;obtain ⟨c4,h4,e4⟩:=fY oO (i:=4) rfl;have w1:c1.what=58:=congrArg Shp.what e1;have w2:c2.what=115:=congrArg Shp.what e2;have w3:c3.what=112:=congrArg Shp.what e3;have w4:c4.what=98:=congrArg Shp.what e4;obtain ⟨hN,hr⟩:=rep3 h2;have hx:X<=9900:=by
   rw [<-hX];exact Nx (Ol (show k<=99 by omega) (show k+1<=100 by omega)) (by omega)
  refine Gvs.step ho (dX hw) (yY (by rw [hp];exact h1) w1) ?_;have q2:(dN ue).aE[u.pc+1]? = some c2:=by rw [hp];exact h2
  have lk:=(iL (u:={ u with pc:=u.pc+1 }) q2 (by rw [w2];omega) (by rw [w2];omega) (NN (congrArg Shp.fq e2)) (congrArg Shp.neg e2) (by show u.steps < 2000;omega)).trans (dd_s w2);have hlen:(u.space++c2.new.plain).length=41+40 * k:=by rw [Nu];omega
  match m,hk with
  | 0,hk=>exact Gvs.stop ho (dX hw) (lk.trans (JX (u:={ u with pc:=u.pc+1+1,steps:=u.steps+1 }) (hr u.space) (by omega))) ht
  | m+1,hk=>
   have hX2:X<=98 * 99:=by
    rw [<-hX];exact Ol (by omega) (by omega)
   refine Gvs.step ho (dX hw) (lk.trans (Gb (u:={ u with pc:=u.pc+1+1,steps:=u.steps+1 }) (hr u.space) (by omega) (congrArg Shp.print e2) (congrArg Shp.name e2))) ?_;have q3:(dN ue).aE[u.pc+1+1]? = some c3:=by rw [hp];exact h3
   refine Gvs.step ho (dX hw) ((iL (u:={ u with pc:=u.pc+1+1,steps:=u.steps+1,space:=u.space++c2.new.plain,fN:=true }) q3 (by rw [w3];omega) (by rw [w3];omega) (NN (congrArg Shp.fq e3)) (congrArg Shp.neg e3) (by show u.steps+1 < 2000;omega)).trans ((dd_p w3).trans (yq (by show u.count+(u.space++c2.new.plain).length+1<=200000;omega)))) ?_;have q4:(dN ue).aE[u.pc+1+1+1]? = some c4:=by rw [hp];exact h4
   refine Gvs.step ho (dX hw) ((iL (u:={ u with pc:=u.pc+1+1+1,steps:=u.steps+1+1,space:=u.space++c2.new.plain,fN:=true,count:=u.count+(u.space++c2.new.plain).length+1,out:=u.out++(u.space++c2.new.plain)++[10] }) q4 (by rw [w4];omega) (by rw [w4];omega) (NN (congrArg Shp.fq e4)) (congrArg Shp.neg e4) (by show u.steps+1+1 < 2000;omega)).trans (dd_b w4)) ?_;refine loop3 m (k+1) (X+2 * (k+1)) _ (by omega) ?_ ho hw (congrArg Shp.goal e4) ht ?_ ?_ ?_
   .rw [<-hX,<-NZ,Nat.mul_comm]
   .show (u.space++c2.new.plain).length=_;omega
   .show u.count+(u.space++c2.new.plain).length+1=_;omega
   .show u.steps+1+1+1=_;omega
theorem ends3:Gvs (dN ue) 8 (fun v=>v.status=0) { fX (dN ue).ahead (dN ue).names.length (dN ue).ranges with left:=[120,10] }:=by
 rw [Lv.2.2.2.1];refine Gvs.sup1 rfl rfl (zG _ _) rfl ?_;obtain ⟨c0,h0,e0⟩:=fY oO (i:=0) rfl;have w0:c0.what=105:=congrArg Shp.what e0;have t0:c0.text.plain=[120]:=congrArg Shp.text e0;refine Gvs.step rfl (dX rfl) ((iL (u:=st1 (dN ue).names.length (dN ue).ranges [120] [] 1) (show (dN ue).aE[0]? = some c0 from h0) (by rw [w0];omega) (by rw [w0];omega) (NN (congrArg Shp.fq e0)) (congrArg Shp.neg e0) (by show 0 < 2000;omega)).trans ((dd_i w0).trans (by rw [t0];exact yq (by decide)))) ?_;exact loop3 99 0 0 _ rfl rfl rfl rfl rfl rfl rfl rfl rfl
theorem zJ:(dN xL).aE.map shp=List.replicate 20 ⟨112,0,0,false,false,0,[]⟩/\(dN xL).quiet=false:=by decide +kernel
theorem EL {u:Ust} {Z r:List UInt8} (hw:u.aH=.bw) (ha:u.ahead=false) (he:u.ended=false) (hl:u.left=Z++10::r) (hz:(10:UInt8)∉Z) (hzl:Z.length<=1000) :
  u.aI=.ok (some { u with left:=r,number:=u.number+1,aH:=.no,steps:=0,space:=Z,pc:=0,fN:=false }):=by
 have e:cutL u.left=(Z,some r):=by rw [hl];exact IB hz
 have ht:u.there=true:=by
  unfold Ust.there;rw [Nr (by rw [he];simp),Nr (by rw [ha];simp),e]
  rfl
 rw [iR,Nr (by rw [hw];intro q;cases q)];unfold Ust.sup;rw [e,Nr (by show ¬ 1000 < Z.length;omega),ht,Ny rfl,hw]
 rfl
structure A4 (Z:List UInt8) (i m n:Nat) (u:Ust):Prop where
 ov:u.over=false
 wn:u.aH=.no
 pc:u.pc=i
 st:u.status=0
 sp:u.space=Z
 ct:u.count=1001 * n
 ot:u.out.length=1001 * n
 sl:u.steps=i
 lf:u.left=wh (List.replicate m Z)
 br:u.br=[]
 ah:u.ahead=false
 en:u.ended=false
theorem Mo (Z:List UInt8) (m:Nat):wh (List.replicate (m+1) Z)=Z++10::wh (List.replicate m Z):=by
 rw [List.replicate_succ];simp [wh]
theorem many4 {Z:List UInt8} (hz:(10:UInt8)∉Z) (hzl:Z.length=1000):∀ (f i m n:Nat) (u:Ust),n+f=199->i<=20->m<=9->n=21 * (9 - m)+i->A4 Z i m n u->Gvs (dN xL) 10 (fun v=>v.status=0/\v.out.length=199199) u
 | f,i,m,n,u,hf,hi,hm,hn,h=>by
  have hsl:=congrArg List.length h.sp;by_cases hi20:i < 20
  .obtain ⟨c,hc,e⟩:=fY zJ.1 (i:=i) (x:=⟨112,0,0,false,false,0,[]⟩) (by rw [N9,Ny hi20]);have w:c.what=112:=congrArg Shp.what e;have lk:=(iL (u:=u) (by rw [h.pc];exact hc) (by rw [w];omega) (by rw [w];omega) (NN (congrArg Shp.fq e)) (congrArg Shp.neg e) (by have:=h.sl;omega)).trans (dd_p w);have hct:=h.ct
   match f,hf with
   | 0,hf=>
    refine Gvs.stop h.ov (dX h.wn) (v:={ u with pc:=u.pc+1,steps:=u.steps+1,count:=u.count+u.space.length+1 }) (lk.trans ?_) ⟨h.st,by have:=h.ot;show u.out.length=199199;omega⟩;unfold Ust.tell;rw [Ny (by show 200000 < u.count+u.space.length+1;omega)]
   | f+1,hf=>
    refine Gvs.step h.ov (dX h.wn) (lk.trans (yq (by show u.count+u.space.length+1<=200000;omega))) ?_;refine many4 hz hzl f (i+1) m (n+1) _ (by omega) (by omega) hm (by omega) ⟨h.ov,h.wn,by show u.pc+1=_;rw [h.pc],h.st,h.sp,?_,?_,by show u.steps+1=_;rw [h.sl],h.lf,h.br,h.ah,h.en⟩
    .show u.count+u.space.length+1=_;omega
    .show (u.out++u.space++[10]).length=_;have:=h.ot;rw [Nu,Nu,NU];omega
  .have hi2:i=20:=by omega
   subst hi2;have hct:=h.ct;have hno:(dN xL).aE[u.pc]? = none:=by
    rw [h.pc];have:=congrArg List.length zJ.1;rw [N6,OB] at this;exact Pg (by omega)
   match f,hf,m,hm,hn,h with
   | 0,hf,m,hm,hn,h=>omega
   | f+1,hf,0,hm,hn,h=>omega
   | f+1,hf,m+1,hm,hn,h=>
    refine Gvs.step h.ov (dX h.wn) (Hl hno zJ.2 h.br (by omega)) ?_;refine Gvs.sup1 h.ov ?_ (EL rfl h.ah h.en (h.lf.trans (Mo Z m)) hz (by omega)) rfl ?_
    .exact h.ov
    refine many4 hz hzl f 0 m (n+1) _ (by omega) (by omega) (by omega) (by omega) ⟨h.ov,rfl,rfl,h.st,rfl,?_,?_,rfl,rfl,h.br,h.ah,h.en⟩
    .show u.count+u.space.length+1=_;omega
    .show (u.out++u.space++[10]).length=_;have:=h.ot;rw [Nu,Nu,NU];omega
theorem ends4 {Z:List UInt8} (hz:(10:UInt8)∉Z) (hzl:Z.length=1000):Gvs (dN xL) 10 (fun v=>v.status=0/\v.out.length=199199) { fX (dN xL).ahead (dN xL).names.length (dN xL).ranges with left:=wh (List.replicate 10 Z) }:=by
 rw [Lv.2.2.2.2];refine Gvs.sup1 rfl rfl (EL rfl rfl rfl (Mo Z 9) hz (by omega)) rfl ?_;exact many4 hz hzl 199 0 9 0 _ rfl (by omega) (by omega) (by omega) ⟨rfl,rfl,rfl,rfl,rfl,rfl,rfl,rfl,rfl,rfl,rfl,rfl⟩
