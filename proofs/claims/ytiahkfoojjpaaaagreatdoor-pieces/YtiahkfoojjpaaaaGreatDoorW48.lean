/- What the claim needs of: HS HT HW. -/
import Derived.Test.YtiahkfoojjpaaaaGreatDoorW46
import Derived.Test.YtiahkfoojjpaaaaGreatDoorW47
import Derived.Test.YtiahkfoojjpaaaaGreatDoorW16
import Derived.Test.YtiahkfoojjpaaaaGreatDoorW30
import Derived.Test.YtiahkfoojjpaaaaGreatDoorW34
import Derived.Lib.LaidTab
set_option maxRecDepth 100000
set_option maxHeartbeats 16000000
set_option linter.unusedVariables false
set_option linter.unusedSimpArgs false
namespace Go.Proofs.YtiahkfoojjpaaaaGreatDoor
open Go.RowKit
section
variable {cd:Nat->In} {n D:Nat} {text:ByteArray}
theorem uE {pl F:Nat} {r:Mc}:∀ (l:List Thr) (s:Mc),sweepF cd n D text F pl l s=some r->Sweep cd n D text pl l s r
 | [],s,e=>by rw [sweepF] at e;rw [Sweep];exact (Option.some.inj e).symm
 | t::l,s,e=>by
  rw [sweepF] at e;rw [Sweep];by_cases h:s.fd=true/\s.eJ 0 < t.x 0
  .rw [Nj h] at e;exact .inl ⟨h.1,h.2,(Option.some.inj e).symm⟩
  .rw [Nh h] at e
   cases q:drive cd n D text pl F (some t) s with
   | none=>rw [q] at e;cases e
   | some s1=>
    rw [q] at e;exact .inr ⟨h,s1,⟨F,q⟩,uE l s1 e⟩
theorem AZ {bg F:Nat} {r:Mc}:∀ (k pl:Nat) (here:List Thr) (s:Mc),runsF cd n D text bg F k pl here s=some r->Runs cd n D text bg k pl here s r
 | 0,pl,here,s,e=>by rw [runsF] at e;rw [Runs];exact (Option.some.inj e).symm
 | k+1,pl,here,s,e=>by
  rw [runsF] at e;rw [Runs];generalize (if s.fd=true then here else here++[⟨bg,0,nz pl⟩])=hh at e ⊢
  cases hh with
  | nil=>exact .inl ⟨rfl,(Option.some.inj e).symm⟩
  | cons t l=>
   dsimp only at e
   cases q:sweepF cd n D text F pl (t::l) s with
   | none=>rw [q] at e;cases e
   | some s1=>
    rw [q] at e;exact .inr ⟨by simp,s1,uE _ _ q,AZ k (pl+1) _ _ e⟩
end
section
variable {q:Ptn} {t:ByteArray} {fr:Nat} {s r:Mc} {F:Nat}
def srchF (q:Ptn) (t:ByteArray) (F fr:Nat) (s:Mc):Option Mc:=runsF q.cd q.n q.D t q.bg F (t.size+1 - fr) fr [] { s with fd:=false }
theorem JI (h:srchF q t F fr s=some r):CN q t fr s=r:=oh (AZ _ _ _ _ h)
def plcFF (q:Ptn) (t:ByteArray) (F:Nat):Nat->Nat->Mc->Option (List (Nat->Int))
 | 0,_,_=>some []
 | k+1,fr,s=>match srchF q t F fr s with
  | none=>none
  | some r=>if r.fd then (match plcFF q t F k (r.eJ 1).toNat r with
    | none=>none
    | some l=>some (r.eJ::l))
   else some []
theorem Bn:∀ (k fr:Nat) (s:Mc) (l:List (Nat->Int)),plcFF q t F k fr s=some l->plcF q t k fr s=l
 | 0,_,_,l,e=>by injection e
 | k+1,fr,s,l,e=>by
  rw [plcFF] at e;rw [plcF]
  cases h:srchF q t F fr s with
  | none=>rw [h] at e;cases e
  | some r=>
   rw [h] at e;dsimp only at e;rw [JI h]
   cases hf:r.fd with
   | false=>
    rw [hf] at e;injection e
   | true=>
    rw [hf] at e;rw [Nj rfl] at e ⊢
    cases h2:plcFF q t F k (r.eJ 1).toNat r with
    | none=>rw [h2] at e;cases e
    | some l2=>
     rw [h2] at e;injection e with e;rw [Bn k _ _ l2 h2,e]
def Bg (F:Nat) (c:du) (sp:List UInt8):Option (Option (List UInt8)):=
 match c.pat with
 | none=>some none
 | some q=>match plcFF q (ba sp) F (((ba sp).size+1) * (q.n * (q.D+1))+1) 0 mc0 with
  | none=>none
  | some l=>some (if (replL c sp l ⟨0,[],0,false⟩).ok then some ((replL c sp l ⟨0,[],0,false⟩).acc++sp.drop (replL c sp l ⟨0,[],0,false⟩).done) else none)
theorem uT {c:du} {sp:List UInt8} {x:Option (List UInt8)} (h:Bg F c sp=some x):jb c sp=x:=by
 unfold Bg at h;unfold jb
 cases hp:c.pat with
 | none=>rw [hp] at h;injection h
 | some q=>
  rw [hp] at h;dsimp only at h ⊢
  cases hl:plcFF q (ba sp) F (((ba sp).size+1) * (q.n * (q.D+1))+1) 0 mc0 with
  | none=>rw [hl] at h;cases h
  | some l=>
   rw [hl] at h;have e:q.Jp sp=l:=Bn _ _ _ l hl;rw [e];injection h
end
def wkS:eF:=match scrE ⟨#[115,47,98,47,120,47]⟩ with
 | .ok S=>S
 | .error _=>⟨false,[],[],0⟩
theorem wk_read:(match scrE ⟨#[115,47,98,47,120,47]⟩ with | .ok _=>true | .error _=>false)=true:=by decide +kernel
theorem wk_scr:scrE ⟨#[115,47,98,47,120,47]⟩=.ok wkS:=by
 have h:=wk_read;unfold wkS
 cases hs:scrE ⟨#[115,47,98,47,120,47]⟩ with
 | error q=>rw [hs] at h;cases h
 | ok S=>rfl
theorem pY:wkS.aH.length=1/\wkS.quiet=false/\wkS.names.length=0/\wkS.ranges=0:=by decide +kernel
theorem wk_r1:(wkS.aH[0]?.map fun c=>Bg 50 c [97,98,99])=some (some (some [97,120,99])):=by decide +kernel
theorem wk_r2:(wkS.aH[0]?.map fun c=>Bg 50 c [97,98])=some (some (some [97,120])):=by decide +kernel
theorem wk_cmd:∃ c,wkS.aH=[c]/\c.what=115/\c.gL=[]/\c.neg=false/\c.print=false/\c.name.size=0/\jb c [97,98,99]=some [97,120,99]/\jb c [97,98]=some [97,120]:=by
 have hl:=pY.1;have r1:=wk_r1;have r2:=wk_r2;have f:(wkS.aH[0]?.map fun c=>(c.what,c.gL.length,c.neg,c.print,c.name.size))=some (115,0,false,false,0):=by decide +kernel
 match hc:wkS.aH,hl with
 | [c],_=>
  rw [hc] at r1 r2 f;simp only [Oy,Option.map_some,Option.some.injEq,Prod.mk.injEq] at r1 r2 f;exact ⟨c,rfl,f.1,NZ f.2.1,f.2.2.1,f.2.2.2.1,f.2.2.2.2,uT r1,uT r2⟩
section
variable {S:eF} {u u1 u2:Ust} {k:Nat}
theorem jx (h:u.over=false) (h1:u.aD=.ok (some u1)) (h2:u1.look S=.ok u2):Ust.runF S (k+1) u=Ust.runF S k u2:=by
 rw [Ust.runF,Nh (by rw [h];simp),h1];dsimp only;rw [h2]
theorem Bc (h:u.over=false) (h1:u.aD=.ok none):Ust.runF S (k+1) u=.ok u:=by
 rw [Ust.runF,Nh (by rw [h];simp),h1]
theorem MF {c:du} {t:List UInt8} (hS:S.aH=[c]) (h1:c.what=115) (h2:c.gL=[]) (h3:c.neg=false) (h4:c.print=false) (h5:c.name.size=0) (hp:u.pc=0) (hst:u.steps < 2000) (hr:jb c u.space=some t) (ht:t.length<=4000) :
  u.look S=.ok { u with pc:=1,steps:=u.steps+1,space:=t,fE:=true }:=by
 unfold Ust.look;rw [hS,hp];simp only [Oy];rw [Nh (by rw [h1];simp),Nh (by omega)];unfold Ust.addressed;rw [h2];dsimp only;rw [h3,Nj (by rfl)];unfold Ust.iq;rw [h1];simp only [reduceIte,Nat.reduceEqDiff];rw [fM];show (match jb c u.space with | none=>_ | some t=>_)=_;rw [hr];dsimp only;rw [Nh (by omega),h4,Nh (by simp)];show fu c _=_;unfold fu;rw [Nj h5]
theorem MG (hp:S.aH[u.pc]? = none) (hq:S.quiet=false) (hb:u.br=[]) (hc:u.count+u.space.length+1<=200000) :
  u.look S=.ok { u with count:=u.count+u.space.length+1,out:=u.out++u.space++[10],aI:=.bw }:=by
 unfold Ust.look;rw [hp];dsimp only;rw [hq];unfold Ust.di Ust.dt;rw [Nh (by simp)];unfold Ust.tell;rw [Nh (by omega)];dsimp only;rw [fO];have e:∀ x:Ust,x.br=[]->Kj (Ust.tellL x.br x)=.ok x:=fun x hx=>by
  rw [hx];obtain ⟨left,ahead,ended,count,number,space,held,aI,pc,steps,fE,over,err,status,out,fb,rg,br⟩:=x
  cases hx
  rfl
 rw [e { u with count:=u.count+u.space.length+1,out:=u.out++u.space++[10] } hb]
end
theorem Ep:((pH false 0 0).feed wkS [97,98,99,10,97,98])=(⟨[97,120,99,10],false,0,0⟩,{ pH false 0 0 with left:=[97,98],count:=4,number:=1,space:=[97,120,99],pc:=1,steps:=1,fE:=true }) /\
  ({ pH false 0 0 with left:=[97,98],count:=4,number:=1,space:=[97,120,99],pc:=1,steps:=1,fE:=true }:Ust).end_ wkS=(⟨[97,120,10],true,0,0⟩,{ pH false 0 0 with ended:=true,over:=true,count:=7,number:=2,space:=[97,120],pc:=1,steps:=1,fE:=true }):=by
 obtain ⟨c,hc,h1,h2,h3,h4,h5,r1,r2⟩:=wk_cmd;have hq:=pY.2.1;constructor
 .unfold Ust.feed;rw [Nh (by rw [show (pH false 0 0).over=false from rfl];simp),lQ];have hf:({ pH false 0 0 with left:=(pH false 0 0).left++[97,98,99,10,97,98] }:Ust).fuel wkS=42066+1+1+1+1:=by
   unfold Ust.fuel;rw [pY.1]
   rfl
  rw [hf];rw [jx (u1:={ pH false 0 0 with left:=[97,98],number:=1,aI:=.no,space:=[97,98,99] }) rfl rfl (MF hc h1 h2 h3 h4 h5 rfl (by show 0 < 2000;omega) r1 (by decide))];rw [jx rfl rfl (MG (by rw [hc];rfl) hq rfl (by decide))];rw [Bc rfl rfl]
  rfl
 .unfold Ust.end_;rw [Nh (by rw [show ({ pH false 0 0 with left:=[97,98],count:=4,number:=1,space:=[97,120,99],pc:=1,steps:=1,fE:=true }:Ust).over=false from rfl];simp),lQ];have hf:({ pH false 0 0 with left:=[97,98],count:=4,number:=1,space:=[97,120,99],pc:=1,steps:=1,fE:=true,ended:=true }:Ust).fuel wkS=18026+1+1+1+1:=by
   unfold Ust.fuel;rw [pY.1]
   rfl
  rw [hf];rw [jx (u1:={ pH false 0 0 with ended:=true,left:=[],count:=4,number:=2,aI:=.no,space:=[97,98] }) rfl rfl (MF hc h1 h2 h3 h4 h5 rfl (by show 0 < 2000;omega) r2 (by decide))];rw [jx rfl rfl (MG (by rw [hc];rfl) hq rfl (by decide))];rw [Bc rfl rfl]
  rfl
section
variable {w0 w w' w2:World} {mb sb db lo hi eb:Nat} {s s':Mst} {u:Ust} {σ:Sst} {S:eF}
theorem Mu {src:ByteArray} {b:Nat} (h:MW w w' b 0 S) (hS:scrE src=.ok S) (hp:Pow w):∃ lo hi σ,Prg w' lo hi b σ S/\Kp [] w w':=by
 obtain ⟨σ,h1,h2,h3⟩:=h;exact ⟨_,_,σ,⟨h2,h1,scrE_ok hS,hp.aj h3⟩,h3⟩
theorem Ed.far (h:Ed w0 w eb mb sb db S s u) {p:Nat} (hp:w.heap.size<=p):¬ Ed.blk eb mb db s p:=fun q=>by
 have:=h.lt q;omega
theorem Lft.bl {x:Nat} {cv:List Value} (l:Lft w0 w eb mb db s w' s') (B:Bl w x cv) (hx:¬ Ed.blk eb mb db s x):Bl w' x cv/\¬ Ed.blk eb mb db s' x:=by
 refine ⟨B.qW (l.same x B.lt hx),fun q=>?_⟩;rcases l.from_ x q with r | r
 .exact hx r
 .have:=B.lt;omega
theorem does_t {src:ByteArray} {inp o:List UInt8} {st:Nat} {a b:Ust.Rep×Ust} (hw:Nm w) (hpw:Pow w) (hS:scrE src=.ok S) (hin:inp.length<=281474976710656)
  (ha:(pH S.ahead S.names.length S.ranges).feed S inp=a) (hb:a.2.end_ S=b) (ho:a.1.out++b.1.out=o) (hol:o.length<=1000000) (h1:b.1.over=true) (h2:b.1.err=0) (h3:b.1.status=st) (h4:a.1.err=0) :
  Calls Tryz.prog 21 #[.string src,.string (ba inp),.string (ba o),.int .i64 st] w fun r w'=>r=.returned (.bool true)/\Kp [] w w':=by
 have HC:=xV src hw;rw [hS] at HC;replace HC:=hid HC;have HF:=hid (And.intro ha (And.intro hb (And.intro ho (And.intro hol (And.intro h1 (And.intro h2 (And.intro h3 h4)))))));have HS:=hid hS;have HPW:=hid hpw;have HIN:=hid hin;clear ha hb ho hol h1 h2 h3 h4 hS hpw hin hw;go_enter Tryz.func21,Tryz.ntmps21
 go_wp2_with fail;refine HC.out.mono ?_;rintro r w1 ⟨sb,rfl,hg⟩;obtain ⟨lo,hi,σ,hP,k1⟩:=Mu hg HS.out HPW.out;have HPP:=hid hP;have HST:=hid (yz hP (Kp.refl [] w1));clear HC hg hP;go_wp2_with fail;refine HST.out.mono ?_;rintro r w2 ⟨eb,mb,db,s2,rfl,E2,k2,_⟩;have HFD:=xJ (d:=inp) HPP.out E2 (fun _=>by show 0+inp.length+0<=_;have:=HIN.out;omega);rw [HF.out.1] at HFD;replace HFD:=hid HFD;clear HST E2;go_wp2_with fail;refine HFD.out.mono ?_;rintro r w3 ⟨rfl,s3,E3,l3⟩;clear HFD l3;have B4:=Bl.alloc w3 (dZ a.1.out a.1.over a.1.err a.1.status) 31;have k4:=Kp.alloc [] w3 (.cells (dZ a.1.out a.1.over a.1.err a.1.status).toArray 31);have E4:=E3.aj k4;have far4:=E3.far (Np w3.heap.size);obtain ⟨w4,hw4⟩:∃ w4,w4=w3.alloc (.cells (dZ a.1.out a.1.over a.1.err a.1.status).toArray 31):=⟨_,rfl⟩;obtain ⟨xa,hxa⟩:∃ xa,xa=w3.heap.size:=⟨_,rfl⟩;have kk3:=E3.m.r.kp;clear E3;go_wp2_with fail;rw [<-hw4,<-hxa];rw [<-hw4,<-hxa] at B4
 rw [<-hw4] at E4 k4;rw [<-hxa] at far4;clear hw4 hxa;have HE:=end_t HPP.out E4;rw [HF.out.2.1,HF.out.2.2.2.2.1] at HE;refine HE.mono ?_;rintro r w5 ⟨rfl,s5,E5,l5⟩;obtain ⟨ba5,_⟩:=l5.bl B4 far4;have k45:Kp [] w1 w5:=E5.m.r.kp;have k6:=Kp.alloc [] w5 (.cells (dZ b.1.out true b.1.err b.1.status).toArray 31);have ba6:=ba5.aj k6 (by simp);have bb6:=Bl.alloc w5 (dZ b.1.out true b.1.err b.1.status) 31;have a0:=ba6.at_ 0 _ rfl;have a2:=ba6.at_ 2 _ rfl;obtain ⟨_,_,ho,hol,h1,h2,h3,h4⟩:=HF.out;have g2:((b.1.err:Int) == 0)=true:=by rw [h2];rfl
 have g3':((b.1.status:Int) == (st:Int))=true:=by rw [h3];simp
 have g4:((a.1.err:Int) == 0)=true:=by rw [h4];rfl
 have hcmp:((ba a.1.out++ba b.1.out).toList == (ba o).toList)=true:=by rw [jP,ho];simp
 have hsz:¬ 9223372036854775807 < (ba a.1.out).size+(ba b.1.out).size:=by
  rw [ax,ax];have:=congrArg List.length ho;rw [Nn] at this;omega
 have b0:=bb6.at_ 0 _ rfl;have b1:=bb6.at_ 1 _ rfl;have b2:=bb6.at_ 2 _ rfl;have b3:=bb6.at_ 3 _ rfl;clear ho hol h1 h2 h3 h4 HE HF E5 E4 far4;go_wp2_with fail;go_ret;exact ⟨rfl,k1.trans (k45.trans k6)⟩
theorem Jt:wkS.ahead=false:=by decide +kernel
theorem wk_ust0:pH wkS.ahead wkS.names.length wkS.ranges=pH false 0 0:=by rw [Jt,pY.2.2.1,pY.2.2.2]
theorem does_wk (hw:Nm w) (hpw:Pow w):Calls Tryz.prog 21 #[.string ⟨#[115,47,98,47,120,47]⟩,.string ⟨#[97,98,99,10,97,98]⟩,.string ⟨#[97,120,99,10,97,120,10]⟩,.int .i64 0] w fun r w'=>r=.returned (.bool true)/\Kp [] w w':=by
 have h:=does_t (w:=w) (S:=wkS) (inp:=[97,98,99,10,97,98]) (o:=[97,120,99,10,97,120,10]) (st:=0) hw hpw wk_scr (by decide) ((congrArg (fun x:Ust=>x.feed wkS [97,98,99,10,97,98]) wk_ust0).trans Ep.1) Ep.2 rfl (by decide) rfl rfl rfl rfl;exact h
theorem bp_ok:(match oB IX 0 with
  | .ok (G,x)=>(G == 0) && ((runsF (cdL (codeOf x.pi)) (1+x.pi.len) x.pi.dd abbc (x.pi.em 1 0 0).2 50 5 0 [] mc0).map (fun s=>(s.fd,s.eJ 0,s.eJ 1)) == some (true,1,3))
  | .error _=>false)=true:=by decide +kernel
theorem Lc (hw:Nm w):Calls Tryz.prog 20 #[.string IX,.string abbc,.int .i64 1,.int .i64 3] w fun e w'=>e=.returned (.bool true)/\Kp [] w w':=by
 have H:=yN (src:=IX) (fr:=0) (by decide) (by decide);have q:=bp_ok
 cases e:oB IX 0 with
 | error z=>rw [e] at q;cases q
 | ok z=>
  obtain ⟨G,x⟩:=z;rw [e] at H q;obtain ⟨hq,_,hr⟩:=H;simp only [OC,beq_iff_eq] at q;obtain ⟨rfl,q⟩:=q;refine Ib (a:=1) (b:=3) hw (by decide) (by decide) hq.dd (xY (q:=⟨IX,0,x⟩) hq).bg hr (fun B w p pt=>IK (hq.ok.sm noB) pt) (fun s' h=>?_)
  cases e:runsF (cdL (codeOf x.pi)) (1+x.pi.len) x.pi.dd abbc (x.pi.em 1 0 0).2 50 5 0 [] mc0 with
  | none=>rw [e] at q;cases q
  | some r=>
   have:=AX (F:=50) _ _ _ _ h e;subst this;rw [e] at q;simp only [Option.map_some,Option.some.injEq,Prod.mk.injEq] at q;exact ⟨q.1,q.2.1,q.2.2⟩
theorem works_t (hw:Nm w) (hpw:Pow w):Calls Tryz.prog 8 #[] w fun r w'=>r=.returned (.bool true)/\Kp [] w w':=by
 have H1:=hid (Lc hw);have H2:Hid (∀ w1,Kp [] w w1->Calls Tryz.prog 21 #[.string ⟨#[115,47,98,47,120,47]⟩,.string ⟨#[97,98,99,10,97,98]⟩,.string ⟨#[97,120,99,10,97,120,10]⟩,.int .i64 0] w1 fun r w'=>r=.returned (.bool true)/\Kp [] w1 w'):=hid (fun w1 k1=>does_wk (hw.aj k1 (by simp)) (hpw.aj k1));clear hw hpw;go_enter Tryz.func8,Tryz.ntmps8
 go_wp2_with fail;refine H1.out.mono ?_;rintro r w1 ⟨rfl,k1⟩;go_wp2_with fail;refine (H2.out w1 k1).mono ?_;rintro r w2 ⟨rfl,k2⟩;go_wp2_with fail;go_ret;exact ⟨rfl,k1.trans k2⟩
end
end Go.Proofs.YtiahkfoojjpaaaaGreatDoor
namespace Go.Proofs.YtiahkfoojjpaaaaGreatDoor
open Go.ChangeShapes Go.WideShapes Go.ChangeAt Go.RowKit
theorem gNamesF : Tryz.prog.globalNamed "ribbon/pattern.names" = some 4 := by kernel_rfl
theorem Cq {l:List Value} {k j:Nat} {v:Value} (h:(((l.drop k).take 2).drop j).take 1=[v]) (hj:j < 2):l[k+j]? = some v:=by
 have h2:=congrArg (fun x=>x[0]?) h;simp only [Oo,List.getElem?_drop,Nat.add_zero,Oy] at h2;rw [Nj (by omega),Nj hj] at h2;exact h2
theorem ya {s:ByteArray} {l:List UInt8} (h:s.data.toList=l):s=⟨l.toArray⟩:=by
 cases s;subst h;simp
theorem uEntryF:∃ fs:Array Field,Tryz.prog.underlying 256=some (.struct fs)/\∃ f0 f1,fs[0]? = some f0/\fs[1]? = some f1/\fs.size=2/\f0.type=9/\f0.offset=0/\f1.type=9/\f1.offset=1:=
 ⟨_,Tryz.underlying256,_,_,rfl,rfl,rfl,rfl,rfl,rfl,rfl⟩
theorem Il {W:World} (h:laidMetH Tryz.prog zq W):∀ i,i < 7->∃ s t:ByteArray,W.cell? ⟨4,i * 2,none⟩=some (.string s)/\W.cell? ⟨4,i * 2+1,none⟩=some (.string t) /\
  (match (Rows.laid_ribbon_pattern_names:DataW Unit) with | .agg l=>l | _=>[])[i]? = some (.agg [.lit (.string s.data.toList),.lit (.string t.data.toList)]):=by
 rw [MakeChecks.laidMetH_plain _ _ _ (by kernel_rfl)] at h;obtain ⟨ps,hl,_,_⟩:=h;obtain ⟨_,_,_,_,_,q1,_,_,_,_,hl1,_⟩:=hl;obtain ⟨_,_,_,_,_,q2,_,_,_,_,hl2,_⟩:=hl1;obtain ⟨_,_,_,_,_,q3,_,_,_,_,hl3,_⟩:=hl2;obtain ⟨g,t,cs,fuel,p,q,hg,ht,hv,hd,_,_⟩:=hl3;obtain rfl:=Option.some.inj (gNamesF.symm.trans hg);obtain rfl:=Option.some.inj ((show (Tryz.prog.globals[4]?).map (·.type)=some 257 by kernel_rfl).symm.trans ht);obtain ⟨xs,m,_,ex,_,hl,hel⟩:=DataW.trod_array Tryz.underlying257 hd;have c2:Tryz.prog.cellsOf 256=2:=by kernel_rfl
 have c1:Tryz.prog.cellsOf 9=1:=by kernel_rfl
 have us:Tryz.prog.underlying 9=some .string:=by kernel_rfl
 obtain ⟨fs,ufs,f0,f1,e0,e1,esz,t0,o0,t1,o1⟩:=uEntryF;intro i hi;have hE:=hel i hi;rw [c2,Nk (by omega)] at hE;obtain ⟨ys,n,_,ey,_,hyl,hys⟩:=DataW.trod_struct ufs hE;rw [esz] at hyl;have h0:=hys 0 f0 e0;have h1:=hys 1 f1 e1;rw [t0,o0,c1,Nk (by omega)] at h0;rw [t1,o1,c1,Nk (by omega)] at h1;obtain ⟨s,es,es',_⟩:=DataW.trod_string us h0;obtain ⟨u,eu,eu',_⟩:=DataW.trod_string us h1;have d0:=Cq es (by omega);have d1:=Cq eu (by omega);refine ⟨s,u,?_,?_,?_⟩
 .rw [World.var?_cell hg hv];simpa using d0
 .rw [World.var?_cell hg hv];simpa using d1
 .have e3:(xs.map (·.1))[i]? = some (.agg (ys.map (·.1))):=by rw [NY,Nk (by omega:i < xs.length),ey];rfl
  have e4:(Rows.laid_ribbon_pattern_names:DataW Unit)=.agg (xs.map (·.1)):=(Prod.mk.inj ex).1;rw [e4];show (xs.map (·.1))[i]? = _;rw [e3]
  match ys,hyl,es',eu' with
  | [y0,y1],_,es',eu'=>
   have a0:y0=_:=es';have a1:y1=_:=eu';rw [a0,a1];rfl
theorem nm_ofF {W:World} (h:laidMetH Tryz.prog zq W):Nm W:=by
 have key:=Il h;have all:∀ i,i < 7->W.cell? ⟨4,i * 2,none⟩=some (.string (nmN i))/\W.cell? ⟨4,i * 2+1,none⟩=some (.string (nmS i)):=by
  intro i hi;obtain ⟨s,t,h1,h2,h3⟩:=key i hi
  match i,hi with
  | 0,_ | 1,_ | 2,_ | 3,_ | 4,_ | 5,_ | 6,_=>
   simp only [Rows.laid_ribbon_pattern_names,Oy,List.getElem?_cons_succ,Option.some.injEq,DataW.agg.injEq,List.cons.injEq,DataW.lit.injEq,Lit.string.injEq,and_true] at h3;rw [h1,h2,ya h3.1.symm,ya h3.2.symm];exact ⟨rfl,rfl⟩
 exact ⟨World.block_lt_of_cell? _ _ (all 0 (by omega)).1,fun i hi=>(all i hi).1,fun i hi=>(all i hi).2⟩
theorem JV:(Rows.laid_internal_strconv_uint64pow10:DataW Unit)=Lib.tabData .u64 Lib.pow10Tab:=by kernel_rfl
noncomputable def gP : Nat := (Tryz.prog.globalNamed "internal/strconv.uint64pow10").getD 0
noncomputable def tP:TypeId:=((Tryz.prog.globals[gP]?).map (·.type)).getD 0
theorem gPow : ∃ g t, Tryz.prog.globalNamed "internal/strconv.uint64pow10" = some g /\ (Tryz.prog.globals[g]?).map (·.type) = some t /\ Tryz.prog.underlying t = some (.array 20 148) /\ Tryz.prog.cellsOf t = 20 := ⟨gP, tP, by kernel_rfl, by kernel_rfl, by kernel_rfl, by kernel_rfl⟩
theorem pow_of {W:World} (h:laidMetH Tryz.prog zq W):Pow W:=by
 rw [MakeChecks.laidMetH_plain _ _ _ (by kernel_rfl)] at h;obtain ⟨ps,hl,_,_⟩:=h;obtain ⟨_,_,_,_,_,q1,_,_,_,_,hl1,_⟩:=hl;obtain ⟨_,_,_,_,_,q2,_,_,_,_,hl2,_⟩:=hl1;obtain ⟨g',t',cs,fuel,p,q,hg',ht',hvar,hd,_,_⟩:=hl2;obtain ⟨g,t,hg,hty,ht,hct⟩:=gPow;obtain rfl:=Option.some.inj (hg.symm.trans hg');obtain rfl:=Option.some.inj (hty.symm.trans ht');rw [JV] at hd;unfold Pow Lib.TabIs;rw [hvar,<-Lib.cells_of_tab ht (by kernel_rfl) (by kernel_rfl) hct hd]
end Go.Proofs.YtiahkfoojjpaaaaGreatDoor
