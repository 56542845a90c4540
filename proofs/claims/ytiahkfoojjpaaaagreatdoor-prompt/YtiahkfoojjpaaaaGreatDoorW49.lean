/- What the claim needs of: HS HT. -/
import Derived.Test.YtiahkfoojjpaaaaGreatDoorW47
import Derived.Test.YtiahkfoojjpaaaaGreatDoorW48
import Derived.Test.YtiahkfoojjpaaaaGreatDoorW14
set_option maxRecDepth 100000
set_option maxHeartbeats 16000000
set_option linter.unusedVariables false
set_option linter.unusedSimpArgs false
namespace Go.Proofs.YtiahkfoojjpaaaaGreatDoor
open Go.RowKit
section
variable {cd:Nat->In} {n D:Nat} {text:ByteArray}
theorem uW {pl F:Nat} {r:Mc}:∀ (l:List Thr) (s:Mc),sweepF cd n D text F pl l s=some r->Sweep cd n D text pl l s r
 | [],s,e=>by rw [sweepF] at e;rw [Sweep];exact (Option.some.inj e).symm
 | t::l,s,e=>by
  rw [sweepF] at e;rw [Sweep];by_cases h:s.fd=true/\s.eN 0 < t.x 0
  .rw [Oa h] at e;exact .inl ⟨h.1,h.2,(Option.some.inj e).symm⟩
  .rw [N7 h] at e
   cases q:drive cd n D text pl F (some t) s with
   | none=>rw [q] at e;cases e
   | some s1=>
    rw [q] at e;exact .inr ⟨h,s1,⟨F,q⟩,uW l s1 e⟩
theorem BB {bg F:Nat} {r:Mc}:∀ (k pl:Nat) (here:List Thr) (s:Mc),runsF cd n D text bg F k pl here s=some r->Runs cd n D text bg k pl here s r
 | 0,pl,here,s,e=>by rw [runsF] at e;rw [Runs];exact (Option.some.inj e).symm
 | k+1,pl,here,s,e=>by
  rw [runsF] at e;rw [Runs];generalize (if s.fd=true then here else here++[⟨bg,0,nz pl⟩])=hh at e ⊢
  cases hh with
  | nil=>exact .inl ⟨rfl,(Option.some.inj e).symm⟩
  | cons t l=>
   dsimp only at e
   cases q:sweepF cd n D text F pl (t::l) s with
   | none=>rw [q] at e;cases e
   | some s1=>
    rw [q] at e;exact .inr ⟨by simp,s1,uW _ _ q,BB k (pl+1) _ _ e⟩
end
section
variable {q:Ptn} {t:ByteArray} {fr:Nat} {s r:Mc} {F:Nat}
def srchF (q:Ptn) (t:ByteArray) (F fr:Nat) (s:Mc):Option Mc:=runsF q.cd q.n q.D t q.bg F (t.size+1 - fr) fr [] { s with fd:=false }
theorem Km (h:srchF q t F fr s=some r):Du q t fr s=r:=oD (BB _ _ _ _ h)
def plcFF (q:Ptn) (t:ByteArray) (F:Nat):Nat->Nat->Mc->Option (List (Nat->Int))
 | 0,_,_=>some []
 | k+1,fr,s=>match srchF q t F fr s with
  | none=>none
  | some r=>if r.fd then (match plcFF q t F k (r.eN 1).toNat r with
    | none=>none
    | some l=>some (r.eN::l))
   else some []
theorem Cc:∀ (k fr:Nat) (s:Mc) (l:List (Nat->Int)),plcFF q t F k fr s=some l->plcF q t k fr s=l
 | 0,_,_,l,e=>by injection e
 | k+1,fr,s,l,e=>by
  rw [plcFF] at e;rw [plcF]
  cases h:srchF q t F fr s with
  | none=>rw [h] at e;cases e
  | some r=>
   rw [h] at e;dsimp only at e;rw [Km h]
   cases hf:r.fd with
   | false=>
    rw [hf] at e;injection e
   | true=>
    rw [hf] at e;rw [Oa rfl] at e ⊢
    cases h2:plcFF q t F k (r.eN 1).toNat r with
    | none=>rw [h2] at e;cases e
    | some l2=>
     rw [h2] at e;injection e with e;rw [Cc k _ _ l2 h2,e]
def BV (F:Nat) (c:dz) (sp:List UInt8):Option (Option (List UInt8)):=
 match c.pat with
 | none=>some none
 | some q=>match plcFF q (ba sp) F (((ba sp).size+1) * (q.n * (q.D+1))+1) 0 mc0 with
  | none=>none
  | some l=>some (if (replL c sp l ⟨0,[],0,false⟩).ok then some ((replL c sp l ⟨0,[],0,false⟩).acc++sp.drop (replL c sp l ⟨0,[],0,false⟩).done) else none)
theorem xp {c:dz} {sp:List UInt8} {x:Option (List UInt8)} (h:BV F c sp=some x):jg c sp=x:=by
 unfold BV at h;unfold jg
 cases hp:c.pat with
 | none=>rw [hp] at h;injection h
 | some q=>
  rw [hp] at h;dsimp only at h ⊢
  cases hl:plcFF q (ba sp) F (((ba sp).size+1) * (q.n * (q.D+1))+1) 0 mc0 with
  | none=>rw [hl] at h;cases h
  | some l=>
   rw [hl] at h;have e:q.JX sp=l:=Cc _ _ _ l hl;rw [e];injection h
end
def wkS:eI:=match scrE ⟨#[115,47,98,47,120,47]⟩ with
 | .ok S=>S
 | .error _=>⟨false,[],[],0⟩
theorem wk_read:(match scrE ⟨#[115,47,98,47,120,47]⟩ with | .ok _=>true | .error _=>false)=true:=by decide +kernel
theorem wk_scr:scrE ⟨#[115,47,98,47,120,47]⟩=.ok wkS:=by
 have h:=wk_read;unfold wkS
 cases hs:scrE ⟨#[115,47,98,47,120,47]⟩ with
 | error q=>rw [hs] at h;cases h
 | ok S=>rfl
theorem ql:wkS.aI.length=1/\wkS.quiet=false/\wkS.names.length=0/\wkS.ranges=0:=by decide +kernel
theorem wk_r1:(wkS.aI[0]?.map fun c=>BV 50 c [97,98,99])=some (some (some [97,120,99])):=by decide +kernel
theorem wk_r2:(wkS.aI[0]?.map fun c=>BV 50 c [97,98])=some (some (some [97,120])):=by decide +kernel
theorem wk_cmd:∃ c,wkS.aI=[c]/\c.what=115/\c.gQ=[]/\c.neg=false/\c.print=false/\c.name.size=0/\jg c [97,98,99]=some [97,120,99]/\jg c [97,98]=some [97,120]:=by
 have hl:=ql.1;have r1:=wk_r1;have r2:=wk_r2;have f:(wkS.aI[0]?.map fun c=>(c.what,c.gQ.length,c.neg,c.print,c.name.size))=some (115,0,false,false,0):=by decide +kernel
 match hc:wkS.aI,hl with
 | [c],_=>
  rw [hc] at r1 r2 f;simp only [Po,Option.map_some,Option.some.injEq,Prod.mk.injEq] at r1 r2 f;exact ⟨c,rfl,f.1,OH f.2.1,f.2.2.1,f.2.2.2.1,f.2.2.2.2,xp r1,xp r2⟩
section
variable {S:eI} {u u1 u2:Ust} {k:Nat}
theorem jD (h:u.over=false) (h1:u.ay=.ok (some u1)) (h2:u1.look S=.ok u2):Ust.runF S (k+1) u=Ust.runF S k u2:=by
 rw [Ust.runF,N7 (by rw [h];simp),h1];dsimp only;rw [h2]
theorem BR (h:u.over=false) (h1:u.ay=.ok none):Ust.runF S (k+1) u=.ok u:=by
 rw [Ust.runF,N7 (by rw [h];simp),h1]
theorem Ns {c:dz} {t:List UInt8} (hS:S.aI=[c]) (h1:c.what=115) (h2:c.gQ=[]) (h3:c.neg=false) (h4:c.print=false) (h5:c.name.size=0) (hp:u.pc=0) (hst:u.steps < 2000) (hr:jg c u.space=some t) (ht:t.length<=4000) :
  u.look S=.ok { u with pc:=1,steps:=u.steps+1,space:=t,fI:=true }:=by
 unfold Ust.look;rw [hS,hp];simp only [Po];rw [N7 (by rw [h1];simp),N7 (by omega)];unfold Ust.addressed;rw [h2];dsimp only;rw [h3,Oa (by rfl)];unfold Ust.iD;rw [h1];simp only [reduceIte,Nat.reduceEqDiff];rw [fQ];show (match jg c u.space with | none=>_ | some t=>_)=_;rw [hr];dsimp only;rw [N7 (by omega),h4,N7 (by simp)];show fF c _=_;unfold fF;rw [Oa h5]
theorem Nu (hp:S.aI[u.pc]? = none) (hq:S.quiet=false) (hb:u.br=[]) (hc:u.count+u.space.length+1<=200000) :
  u.look S=.ok { u with count:=u.count+u.space.length+1,out:=u.out++u.space++[10],aE:=.bw }:=by
 unfold Ust.look;rw [hp];dsimp only;rw [hq];unfold Ust.dk Ust.dw;rw [N7 (by simp)];unfold Ust.tell;rw [N7 (by omega)];dsimp only;rw [fS];have e:∀ x:Ust,x.br=[]->Lk (Ust.tellL x.br x)=.ok x:=fun x hx=>by
  rw [hx];obtain ⟨left,ahead,ended,count,number,space,held,aE,pc,steps,fI,over,err,status,out,fb,rg,br⟩:=x
  cases hx
  rfl
 rw [e { u with count:=u.count+u.space.length+1,out:=u.out++u.space++[10] } hb]
end
theorem Ft:((nF false 0 0).feed wkS [97,98,99,10,97,98])=(⟨[97,120,99,10],false,0,0⟩,{ nF false 0 0 with left:=[97,98],count:=4,number:=1,space:=[97,120,99],pc:=1,steps:=1,fI:=true }) /\
  ({ nF false 0 0 with left:=[97,98],count:=4,number:=1,space:=[97,120,99],pc:=1,steps:=1,fI:=true }:Ust).end_ wkS=(⟨[97,120,10],true,0,0⟩,{ nF false 0 0 with ended:=true,over:=true,count:=7,number:=2,space:=[97,120],pc:=1,steps:=1,fI:=true }):=by
 obtain ⟨c,hc,h1,h2,h3,h4,h5,r1,r2⟩:=wk_cmd;have hq:=ql.2.1;constructor
 .unfold Ust.feed;rw [N7 (by rw [show (nF false 0 0).over=false from rfl];simp),jC];have hf:({ nF false 0 0 with left:=(nF false 0 0).left++[97,98,99,10,97,98] }:Ust).fuel wkS=42066+1+1+1+1:=by
   unfold Ust.fuel;rw [ql.1]
   rfl
  rw [hf];rw [jD (u1:={ nF false 0 0 with left:=[97,98],number:=1,aE:=.no,space:=[97,98,99] }) rfl rfl (Ns hc h1 h2 h3 h4 h5 rfl (by show 0 < 2000;omega) r1 (by decide))];rw [jD rfl rfl (Nu (by rw [hc];rfl) hq rfl (by decide))];rw [BR rfl rfl]
  rfl
 .unfold Ust.end_;rw [N7 (by rw [show ({ nF false 0 0 with left:=[97,98],count:=4,number:=1,space:=[97,120,99],pc:=1,steps:=1,fI:=true }:Ust).over=false from rfl];simp),jC];have hf:({ nF false 0 0 with left:=[97,98],count:=4,number:=1,space:=[97,120,99],pc:=1,steps:=1,fI:=true,ended:=true }:Ust).fuel wkS=18026+1+1+1+1:=by
   unfold Ust.fuel;rw [ql.1]
   rfl
  rw [hf];rw [jD (u1:={ nF false 0 0 with ended:=true,left:=[],count:=4,number:=2,aE:=.no,space:=[97,98] }) rfl rfl (Ns hc h1 h2 h3 h4 h5 rfl (by show 0 < 2000;omega) r2 (by decide))];rw [jD rfl rfl (Nu (by rw [hc];rfl) hq rfl (by decide))];rw [BR rfl rfl]
  rfl
section
variable {w0 w w' w2:World} {mb sb db lo hi eb:Nat} {s s':Mst} {u:Ust} {σ:Sst} {S:eI}
theorem Ng {src:ByteArray} {b:Nat} (h:NQ w w' b 0 S) (hS:scrE src=.ok S) (hp:Pow w):∃ lo hi σ,Prg w' lo hi b σ S/\Kp [] w w':=by
 obtain ⟨σ,h1,h2,h3⟩:=h;exact ⟨_,_,σ,⟨h2,h1,scrE_ok hS,hp.aj h3⟩,h3⟩
theorem Ed.far (h:Ed w0 w eb mb sb db S s u) {p:Nat} (hp:w.heap.size<=p):¬ Ed.blk eb mb db s p:=fun q=>by
 have:=h.lt q;omega
theorem Lft.bl {x:Nat} {cv:List Value} (l:Lft w0 w eb mb db s w' s') (B:Bl w x cv) (hx:¬ Ed.blk eb mb db s x):Bl w' x cv/\¬ Ed.blk eb mb db s' x:=by
 refine ⟨B.rq (l.same x B.lt hx),fun q=>?_⟩;rcases l.from_ x q with r | r
 .exact hx r
 .have:=B.lt;omega
theorem does_t {src:ByteArray} {inp o:List UInt8} {st:Nat} {a b:Ust.Rep×Ust} (hw:Nm w) (hpw:Pow w) (hS:scrE src=.ok S) (hin:inp.length<=281474976710656)
  (ha:(nF S.ahead S.names.length S.ranges).feed S inp=a) (hb:a.2.end_ S=b) (ho:a.1.out++b.1.out=o) (hol:o.length<=1000000) (h1:b.1.over=true) (h2:b.1.err=0) (h3:b.1.status=st) (h4:a.1.err=0) :
  Calls Tryz.prog 21 #[.string src,.string (ba inp),.string (ba o),.int .i64 st] w fun r w'=>r=.returned (.bool true)/\Kp [] w w':=by
 have HC:=yo src hw;rw [hS] at HC;replace HC:=hid HC;have HF:=hid (And.intro ha (And.intro hb (And.intro ho (And.intro hol (And.intro h1 (And.intro h2 (And.intro h3 h4)))))));have HS:=hid hS;have HPW:=hid hpw;have HIN:=hid hin;clear ha hb ho hol h1 h2 h3 h4 hS hpw hin hw;go_enter Tryz.func21,Tryz.ntmps21
 go_wp2_with fail;refine HC.out.mono ?_;rintro r w1 ⟨sb,rfl,hg⟩;obtain ⟨lo,hi,σ,hP,k1⟩:=Ng hg HS.out HPW.out;have HPP:=hid hP;have HST:=hid (yU hP (Kp.refl [] w1));clear HC hg hP;go_wp2_with fail;refine HST.out.mono ?_;rintro r w2 ⟨eb,mb,db,s2,rfl,E2,k2,_⟩;have HFD:=CN (d:=inp) HPP.out E2 (fun _=>by show 0+inp.length+0<=_;have:=HIN.out;omega);rw [HF.out.1] at HFD;replace HFD:=hid HFD;clear HST E2;go_wp2_with fail;refine HFD.out.mono ?_;rintro r w3 ⟨rfl,s3,E3,l3⟩;clear HFD l3;have B4:=Bl.alloc w3 (fJ a.1.out a.1.over a.1.err a.1.status) 31;have k4:=Kp.alloc [] w3 (.cells (fJ a.1.out a.1.over a.1.err a.1.status).toArray 31);have E4:=E3.aj k4;have far4:=E3.far (Od w3.heap.size);obtain ⟨w4,hw4⟩:∃ w4,w4=w3.alloc (.cells (fJ a.1.out a.1.over a.1.err a.1.status).toArray 31):=⟨_,rfl⟩;obtain ⟨xa,hxa⟩:∃ xa,xa=w3.heap.size:=⟨_,rfl⟩;have kk3:=E3.m.r.kp;clear E3;go_wp2_with fail;rw [<-hw4,<-hxa];rw [<-hw4,<-hxa] at B4
 rw [<-hw4] at E4 k4;rw [<-hxa] at far4;clear hw4 hxa;have HE:=end_t HPP.out E4;rw [HF.out.2.1,HF.out.2.2.2.2.1] at HE;refine HE.mono ?_;rintro r w5 ⟨rfl,s5,E5,l5⟩;obtain ⟨ba5,_⟩:=l5.bl B4 far4;have k45:Kp [] w1 w5:=E5.m.r.kp;have k6:=Kp.alloc [] w5 (.cells (fJ b.1.out true b.1.err b.1.status).toArray 31);have ba6:=ba5.aj k6 (by simp);have bb6:=Bl.alloc w5 (fJ b.1.out true b.1.err b.1.status) 31;have a0:=ba6.at_ 0 _ rfl;have a2:=ba6.at_ 2 _ rfl;obtain ⟨_,_,ho,hol,h1,h2,h3,h4⟩:=HF.out;have g2:((b.1.err:Int) == 0)=true:=by rw [h2];rfl
 have g3':((b.1.status:Int) == (st:Int))=true:=by rw [h3];simp
 have g4:((a.1.err:Int) == 0)=true:=by rw [h4];rfl
 have hcmp:((ba a.1.out++ba b.1.out).toList == (ba o).toList)=true:=by rw [gu,ho];simp
 have hsz:¬ 9223372036854775807 < (ba a.1.out).size+(ba b.1.out).size:=by
  rw [aw,aw];have:=congrArg List.length ho;rw [N9] at this;omega
 have b0:=bb6.at_ 0 _ rfl;have b1:=bb6.at_ 1 _ rfl;have b2:=bb6.at_ 2 _ rfl;have b3:=bb6.at_ 3 _ rfl;clear ho hol h1 h2 h3 h4 HE HF E5 E4 far4;go_wp2_with fail;go_ret;exact ⟨rfl,k1.trans (k45.trans k6)⟩
theorem J6:wkS.ahead=false:=by decide +kernel
theorem wk_ust0:nF wkS.ahead wkS.names.length wkS.ranges=nF false 0 0:=by rw [J6,ql.2.2.1,ql.2.2.2]
theorem does_wk (hw:Nm w) (hpw:Pow w):Calls Tryz.prog 21 #[.string ⟨#[115,47,98,47,120,47]⟩,.string ⟨#[97,98,99,10,97,98]⟩,.string ⟨#[97,120,99,10,97,120,10]⟩,.int .i64 0] w fun r w'=>r=.returned (.bool true)/\Kp [] w w':=by
 have h:=does_t (w:=w) (S:=wkS) (inp:=[97,98,99,10,97,98]) (o:=[97,120,99,10,97,120,10]) (st:=0) hw hpw wk_scr (by decide) ((congrArg (fun x:Ust=>x.feed wkS [97,98,99,10,97,98]) wk_ust0).trans Ft.1) Ft.2 rfl (by decide) rfl rfl rfl rfl;exact h
theorem bp_ok:(match oK Jw 0 with
  | .ok (G,x)=>(G == 0) && ((runsF (cdL (codeOf x.pi)) (1+x.pi.len) x.pi.dd abbc (x.pi.em 1 0 0).2 50 5 0 [] mc0).map (fun s=>(s.fd,s.eN 0,s.eN 1)) == some (true,1,3))
  | .error _=>false)=true:=by decide +kernel
theorem LU (hw:Nm w):Calls Tryz.prog 20 #[.string Jw,.string abbc,.int .i64 1,.int .i64 3] w fun e w'=>e=.returned (.bool true)/\Kp [] w w':=by
 have H:=zz (src:=Jw) (fr:=0) (by decide) (by decide);have q:=bp_ok
 cases e:oK Jw 0 with
 | error z=>rw [e] at q;cases q
 | ok z=>
  obtain ⟨G,x⟩:=z;rw [e] at H q;obtain ⟨hq,_,hr⟩:=H;simp only [Ps,beq_iff_eq] at q;obtain ⟨rfl,q⟩:=q;refine IQ (a:=1) (b:=3) hw (by decide) (by decide) hq.dd (yr (q:=⟨Jw,0,x⟩) hq).bg hr (fun B w p pt=>Jn (hq.ok.sm noB) pt) (fun s' h=>?_)
  cases e:runsF (cdL (codeOf x.pi)) (1+x.pi.len) x.pi.dd abbc (x.pi.em 1 0 0).2 50 5 0 [] mc0 with
  | none=>rw [e] at q;cases q
  | some r=>
   have:=Bx (F:=50) _ _ _ _ h e;subst this;rw [e] at q;simp only [Option.map_some,Option.some.injEq,Prod.mk.injEq] at q;exact ⟨q.1,q.2.1,q.2.2⟩
theorem works_t (hw:Nm w) (hpw:Pow w):Calls Tryz.prog 8 #[] w fun r w'=>r=.returned (.bool true)/\Kp [] w w':=by
 have H1:=hid (LU hw);have H2:Hid (∀ w1,Kp [] w w1->Calls Tryz.prog 21 #[.string ⟨#[115,47,98,47,120,47]⟩,.string ⟨#[97,98,99,10,97,98]⟩,.string ⟨#[97,120,99,10,97,120,10]⟩,.int .i64 0] w1 fun r w'=>r=.returned (.bool true)/\Kp [] w1 w'):=hid (fun w1 k1=>does_wk (hw.aj k1 (by simp)) (hpw.aj k1));clear hw hpw;go_enter Tryz.func8,Tryz.ntmps8
 go_wp2_with fail;refine H1.out.mono ?_;rintro r w1 ⟨rfl,k1⟩;go_wp2_with fail;refine (H2.out w1 k1).mono ?_;rintro r w2 ⟨rfl,k2⟩;go_wp2_with fail;go_ret;exact ⟨rfl,k1.trans k2⟩
end
end Go.Proofs.YtiahkfoojjpaaaaGreatDoor
