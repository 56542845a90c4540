import Derived.Test.YtiahkfoojjpaaaaGreatDoorT46
import Derived.Test.YtiahkfoojjpaaaaGreatDoorT47
set_option maxRecDepth 100000
set_option maxHeartbeats 16000000
set_option linter.all false
namespace Go.Proofs.YtiahkfoojjpaaaaGreatDoor
open Go.RowKit
def ptL:List ByteArray:=[⟨#[40]⟩,⟨#[41]⟩,⟨#[97,42,42]⟩,⟨#[42]⟩,⟨#[97,124,42]⟩,⟨#[94,42]⟩,⟨#[97,123]⟩,⟨#[97,123,50]⟩,⟨#[97,123,50,49,125]⟩,⟨#[97,123,51,44,50,125]⟩,⟨#[97,123,49,44,50]⟩,⟨#[91]⟩,⟨#[91,93]⟩,⟨#[91,97]⟩,⟨#[91,98,45,97,93]⟩,⟨#[91,91,58,97,108,112,104,97,93]⟩,⟨#[91,91,58,120,58,93,93]⟩,⟨#[92]⟩,⟨#[92,97]⟩,⟨#[40,40,40,40,40,40,40,40,40,40,97]⟩,⟨#[93]⟩,⟨#[125]⟩,⟨#[120,10]⟩,⟨#[91,97,45,93]⟩,⟨#[91,45,97,93]⟩,⟨#[40,97,123,50,48,125,41,123,50,48,125]⟩]
def ptP:List Nat:=[1,0,2,0,2,1,2,3,3,4,5,1,1,2,3,8,3,1,1,9,0,0,1,3,1,11]
def scL:List ByteArray:=[⟨#[115,47,97,47,98]⟩,⟨#[98,32,116,104,101,114,101]⟩,⟨#[112,125]⟩,⟨#[50,44,120]⟩,⟨#[123,112]⟩,⟨#[48,112]⟩,⟨#[48,49,112]⟩,⟨#[49,48,48,48,48,48,49,112]⟩,⟨#[112,32,112]⟩,⟨#[58]⟩,⟨#[58,97,59,58,97]⟩,⟨#[49,58,97]⟩,⟨#[98,118,101,114,121,108,111,110,103,110,97,109,101]⟩,⟨#[115,47,97,47,92,49,47]⟩,⟨#[115,47,97,47,98,47,103,103]⟩,⟨#[115,47,97,47,98,47,48]⟩,⟨#[121,47,97,98,47,99,47]⟩,⟨#[121,47,97,47,98,99,47]⟩,⟨#[121,47,97,97,47,98,99,47]⟩,⟨#[113,50,53,54]⟩,⟨#[113,32,48,49]⟩,⟨#[97,32,92,120]⟩,⟨#[119]⟩,⟨#[115,47,40,47,120,47]⟩,⟨#[47,97]⟩,⟨#[33,33,112]⟩,⟨#[107]⟩,⟨#[123,123,123,123,123,123,123,123,123,112]⟩,⟨#[49,44,112]⟩,⟨#[115,47,97,47,98,47,119]⟩]
def scP:List Nat:=[5,2,1,2,2,0,0,6,2,1,4,1,9,4,7,6,6,5,3,3,3,2,1,3,2,1,0,8,2,7]
def scR:List Nat:=[4,5,6,4,6,4,4,4,4,4,5,4,4,4,4,4,4,4,4,4,4,4,4,2,4,4,4,6,4,4]
abbrev ptV:List Value:=[.string ⟨#[40]⟩,.string ⟨#[41]⟩,.string ⟨#[97,42,42]⟩,.string ⟨#[42]⟩,.string ⟨#[97,124,42]⟩,.string ⟨#[94,42]⟩,.string ⟨#[97,123]⟩,.string ⟨#[97,123,50]⟩,.string ⟨#[97,123,50,49,125]⟩,.string ⟨#[97,123,51,44,50,125]⟩,.string ⟨#[97,123,49,44,50]⟩,.string ⟨#[91]⟩,.string ⟨#[91,93]⟩,.string ⟨#[91,97]⟩,.string ⟨#[91,98,45,97,93]⟩,.string ⟨#[91,91,58,97,108,112,104,97,93]⟩,.string ⟨#[91,91,58,120,58,93,93]⟩,.string ⟨#[92]⟩,.string ⟨#[92,97]⟩,.string ⟨#[40,40,40,40,40,40,40,40,40,40,97]⟩,.string ⟨#[93]⟩,.string ⟨#[125]⟩,.string ⟨#[120,10]⟩,.string ⟨#[91,97,45,93]⟩,.string ⟨#[91,45,97,93]⟩,.string ⟨#[40,97,123,50,48,125,41,123,50,48,125]⟩]
abbrev ptW:List Value:=[.int .i64 1,.int .i64 0,.int .i64 2,.int .i64 0,.int .i64 2,.int .i64 1,.int .i64 2,.int .i64 3,.int .i64 3,.int .i64 4,.int .i64 5,.int .i64 1,.int .i64 1,.int .i64 2,.int .i64 3,.int .i64 8,.int .i64 3,.int .i64 1,.int .i64 1,.int .i64 9,.int .i64 0,.int .i64 0,.int .i64 1,.int .i64 3,.int .i64 1,.int .i64 11]
abbrev scV:List Value:=[.string ⟨#[115,47,97,47,98]⟩,.string ⟨#[98,32,116,104,101,114,101]⟩,.string ⟨#[112,125]⟩,.string ⟨#[50,44,120]⟩,.string ⟨#[123,112]⟩,.string ⟨#[48,112]⟩,.string ⟨#[48,49,112]⟩,.string ⟨#[49,48,48,48,48,48,49,112]⟩,.string ⟨#[112,32,112]⟩,.string ⟨#[58]⟩,.string ⟨#[58,97,59,58,97]⟩,.string ⟨#[49,58,97]⟩,.string ⟨#[98,118,101,114,121,108,111,110,103,110,97,109,101]⟩,.string ⟨#[115,47,97,47,92,49,47]⟩,.string ⟨#[115,47,97,47,98,47,103,103]⟩,.string ⟨#[115,47,97,47,98,47,48]⟩,.string ⟨#[121,47,97,98,47,99,47]⟩,.string ⟨#[121,47,97,47,98,99,47]⟩,.string ⟨#[121,47,97,97,47,98,99,47]⟩,.string ⟨#[113,50,53,54]⟩,.string ⟨#[113,32,48,49]⟩,.string ⟨#[97,32,92,120]⟩,.string ⟨#[119]⟩,.string ⟨#[115,47,40,47,120,47]⟩,.string ⟨#[47,97]⟩,.string ⟨#[33,33,112]⟩,.string ⟨#[107]⟩,.string ⟨#[123,123,123,123,123,123,123,123,123,112]⟩,.string ⟨#[49,44,112]⟩,.string ⟨#[115,47,97,47,98,47,119]⟩]
abbrev scW:List Value:=[.int .i64 5,.int .i64 2,.int .i64 1,.int .i64 2,.int .i64 2,.int .i64 0,.int .i64 0,.int .i64 6,.int .i64 2,.int .i64 1,.int .i64 4,.int .i64 1,.int .i64 9,.int .i64 4,.int .i64 7,.int .i64 6,.int .i64 6,.int .i64 5,.int .i64 3,.int .i64 3,.int .i64 3,.int .i64 2,.int .i64 1,.int .i64 3,.int .i64 2,.int .i64 1,.int .i64 0,.int .i64 8,.int .i64 2,.int .i64 7]
abbrev scX:List Value:=[.int .i64 4,.int .i64 5,.int .i64 6,.int .i64 4,.int .i64 6,.int .i64 4,.int .i64 4,.int .i64 4,.int .i64 4,.int .i64 4,.int .i64 5,.int .i64 4,.int .i64 4,.int .i64 4,.int .i64 4,.int .i64 4,.int .i64 4,.int .i64 4,.int .i64 4,.int .i64 4,.int .i64 4,.int .i64 4,.int .i64 4,.int .i64 2,.int .i64 4,.int .i64 4,.int .i64 4,.int .i64 6,.int .i64 4,.int .i64 4]
def ptB (k:Nat):Bool:=match ptL[k]?,ptP[k]? with
 | some P,some pl=>decide (P.size<=2000) && (match gI P 0 with | .error (E,q)=>E == (if k=25 then 3 else 2) && q == pl | .ok _=>false)
 | _,_=>false
def scB (k:Nat):Bool:=match scL[k]?,scP[k]?,scR[k]? with
 | some P,some pl,some E=>(match scrE P with | .error (e,q)=>e == E && q == pl | .ok _=>false)
 | _,_,_=>false
theorem pt_all:(List.range 26).all ptB=true:=by decide +kernel
theorem sc_all:(List.range 30).all scB=true:=by decide +kernel
theorem pt_at {k:Nat} (h:k < 26):∃ (P:ByteArray) (pl:Nat),ptV[k]? = some (.string P)/\ptW[k]? = some (.int .i64 pl)/\P.size<=2000/\MH P ⟨#[97]⟩=.error (if k=25 then 3 else 2,pl):=by
 have q:=List.all_eq_true.1 pt_all k (List.mem_range.2 h);unfold ptB at q
 cases h1:ptL[k]? with
 | none=>rw [h1] at q;cases q
 | some P=>
  cases h2:ptP[k]? with
  | none=>rw [h1,h2] at q;cases q
  | some pl=>
   rw [h1,h2] at q;simp only [Oj,decide_eq_true_eq] at q;refine ⟨P,pl,?_,?_,q.1,?_⟩
   .rw [show ptV=ptL.map .string from rfl,NY,h1]
    rfl
   .rw [show ptW=ptP.map (fun x=>.int .i64 (x:Int)) from rfl,NY,h2]
    rfl
   .unfold MH;rw [Nr (by decide)]
    cases hr:gI P 0 with
    | ok z=>rw [hr] at q;cases q.2
    | error z=>
     obtain ⟨E,p⟩:=z;rw [hr] at q;simp only [Oj,beq_iff_eq] at q;rw [q.2.1,q.2.2]
theorem sc_at {k:Nat} (h:k < 30):∃ (P:ByteArray) (pl E:Nat),scV[k]? = some (.string P)/\scW[k]? = some (.int .i64 pl)/\scX[k]? = some (.int .i64 E)/\scrE P=.error (E,pl):=by
 have q:=List.all_eq_true.1 sc_all k (List.mem_range.2 h);unfold scB at q
 cases h1:scL[k]? with
 | none=>rw [h1] at q;cases q
 | some P=>
  cases h2:scP[k]? with
  | none=>rw [h1,h2] at q;cases q
  | some pl=>
   cases h3:scR[k]? with
   | none=>rw [h1,h2,h3] at q;cases q
   | some E=>
    rw [h1,h2,h3] at q;dsimp only at q;refine ⟨P,pl,E,?_,?_,?_,?_⟩
    .rw [show scV=scL.map .string from rfl,NY,h1]
     rfl
    .rw [show scW=scP.map (fun x=>.int .i64 (x:Int)) from rfl,NY,h2]
     rfl
    .rw [show scX=scR.map (fun x=>.int .i64 (x:Int)) from rfl,NY,h3]
     rfl
    .cases hr:scrE P with
     | ok z=>rw [hr] at q;cases q
     | error z=>
      obtain ⟨e,p⟩:=z;rw [hr] at q;simp only [Oj,beq_iff_eq] at q;rw [q.1,q.2]
section
variable {w0 w w' w2:World} {mb sb db lo hi eb:Nat} {s s':Mst} {u:Ust} {σ:Sst} {S:fj}
theorem Gm {src:ByteArray} {b:Nat} (h:Ng w w' b 0 S) (hS:scrE src=.ok S) (hp:Pow w):∃ lo hi σ,Prg w' lo hi b σ S/\Kp [] w w':=by
 obtain ⟨σ,h1,h2,h3⟩:=h;exact ⟨_,_,σ,⟨h2,h1,Fo hS,hp.aj h3⟩,h3⟩
theorem Ed.far (h:Ed w0 w eb mb sb db S s u) {p:Nat} (hp:w.heap.size<=p):¬ Ed.blk eb mb db s p:=fun q=>by
 have:=h.lt q;omega
theorem Lft.bl {x:Nat} {cv:List Value} (l:Lft w0 w eb mb db s w' s') (B:Bl w x cv) (hx:¬ Ed.blk eb mb db s x):Bl w' x cv/\¬ Ed.blk eb mb db s' x:=by
 refine ⟨B.ya (l.same x B.lt hx),fun q=>?_⟩;rcases l.from_ x q with r | r
 .exact hx r
 .have:=B.lt;omega
theorem does_t {src:ByteArray} {inp o:List UInt8} {st:Nat} {a b:Ust.Rep×Ust} (hw:Nm w) (hpw:Pow w) (hS:scrE src=.ok S) (hin:inp.length<=281474976710656)
  (ha:(fX S.ahead S.names.length S.ranges).feed S inp=a) (hb:a.2.end_ S=b) (ho:a.1.out++b.1.out=o) (hol:o.length<=1000000) (h1:b.1.over=true) (h2:b.1.err=0) (h3:b.1.status=st) (h4:a.1.err=0) :
  Calls Tryz.prog 21 #[.string src,.string (ba inp),.string (ba o),.int .i64 st] w fun r w'=>r=.returned (.bool true)/\Kp [] w w':=by
 have HC:=iq src hw;rw [hS] at HC;replace HC:=hid HC;have HF:=hid (And.intro ha (And.intro hb (And.intro ho (And.intro hol (And.intro h1 (And.intro h2 (And.intro h3 h4)))))));have HS:=hid hS;have HPW:=hid hpw;have HIN:=hid hin;clear ha hb ho hol h1 h2 h3 h4 hS hpw hin hw;go_enter Tryz.func21,Tryz.ntmps21
 go_wp2_with fail;refine HC.out.mono ?_;rintro r w1 ⟨sb,rfl,hg⟩;obtain ⟨lo,hi,σ,hP,k1⟩:=Gm hg HS.out HPW.out;have HPP:=hid hP;have HST:=hid (yu hP (Kp.refl [] w1));clear HC hg hP;go_wp2_with fail;refine HST.out.mono ?_;rintro r w2 ⟨eb,mb,db,s2,rfl,E2,k2,_⟩;have HFD:=Im (d:=inp) HPP.out E2 (fun _=>by show 0+inp.length+0<=_;have:=HIN.out;omega);rw [HF.out.1] at HFD;replace HFD:=hid HFD;clear HST E2;go_wp2_with fail;refine HFD.out.mono ?_;rintro r w3 ⟨rfl,s3,E3,l3⟩;clear HFD l3;have B4:=Bl.alloc w3 (fw a.1.out a.1.over a.1.err a.1.status) 31;have k4:=Kp.alloc [] w3 (.cells (fw a.1.out a.1.over a.1.err a.1.status).toArray 31);have E4:=E3.aj k4;have far4:=E3.far (Nw w3.heap.size);obtain ⟨w4,hw4⟩:∃ w4,w4=w3.alloc (.cells (fw a.1.out a.1.over a.1.err a.1.status).toArray 31):=⟨_,rfl⟩;obtain ⟨xa,hxa⟩:∃ xa,xa=w3.heap.size:=⟨_,rfl⟩;have kk3:=E3.m.r.kp;clear E3;go_wp2_with fail;rw [<-hw4,<-hxa];rw [<-hw4,<-hxa] at B4
 rw [<-hw4] at E4 k4;rw [<-hxa] at far4;clear hw4 hxa;have HE:=end_t HPP.out E4;rw [HF.out.2.1,HF.out.2.2.2.2.1] at HE;refine HE.mono ?_;rintro r w5 ⟨rfl,s5,E5,l5⟩;obtain ⟨ba5,_⟩:=l5.bl B4 far4;have k45:Kp [] w1 w5:=E5.m.r.kp;have k6:=Kp.alloc [] w5 (.cells (fw b.1.out true b.1.err b.1.status).toArray 31);have ba6:=ba5.aj k6 (by simp);have bb6:=Bl.alloc w5 (fw b.1.out true b.1.err b.1.status) 31;have a0:=ba6.at_ 0 _ rfl;have a2:=ba6.at_ 2 _ rfl;obtain ⟨_,_,ho,hol,h1,h2,h3,h4⟩:=HF.out;have g2:((b.1.err:Int) == 0)=true:=by rw [h2];rfl
 have g3':((b.1.status:Int) == (st:Int))=true:=by rw [h3];simp
 have g4:((a.1.err:Int) == 0)=true:=by rw [h4];rfl
 have hcmp:((ba a.1.out++ba b.1.out).toList == (ba o).toList)=true:=by rw [jG,ho];simp
 have hsz:¬ 9223372036854775807 < (ba a.1.out).size+(ba b.1.out).size:=by
  rw [ax,ax];have:=congrArg List.length ho;rw [Nu] at this;omega
 have b0:=bb6.at_ 0 _ rfl;have b1:=bb6.at_ 1 _ rfl;have b2:=bb6.at_ 2 _ rfl;have b3:=bb6.at_ 3 _ rfl;clear ho hol h1 h2 h3 h4 HE HF E5 E4 far4;go_wp2_with fail;go_ret;exact ⟨rfl,k1.trans (k45.trans k6)⟩
theorem Jx:wkS.ahead=false:=by decide +kernel
theorem wk_ust0:fX wkS.ahead wkS.names.length wkS.ranges=fX false 0 0:=by rw [Jx,pW.2.2.1,pW.2.2.2]
theorem does_wk (hw:Nm w) (hpw:Pow w):Calls Tryz.prog 21 #[.string ⟨#[115,47,98,47,120,47]⟩,.string ⟨#[97,98,99,10,97,98]⟩,.string ⟨#[97,120,99,10,97,120,10]⟩,.int .i64 0] w fun r w'=>r=.returned (.bool true)/\Kp [] w w':=by
 have h:=does_t (w:=w) (S:=wkS) (inp:=[97,98,99,10,97,98]) (o:=[97,120,99,10,97,120,10]) (st:=0) hw hpw wk_scr (by decide) ((congrArg (fun x:Ust=>x.feed wkS [97,98,99,10,97,98]) wk_ust0).trans Ej.1) Ej.2 rfl (by decide) rfl rfl rfl rfl;exact h
theorem bp_ok:(match gI IZ 0 with
  | .ok (G,x)=>(G == 0) && ((runsF (cdL (codeOf x.pi)) (1+x.pi.len) x.pi.dd abbc (x.pi.em 1 0 0).2 50 5 0 [] mc0).map (fun s=>(s.fd,s.dQ 0,s.dQ 1)) == some (true,1,3))
  | .error _=>false)=true:=by decide +kernel
theorem Lh (hw:Nm w):Calls Tryz.prog 20 #[.string IZ,.string abbc,.int .i64 1,.int .i64 3] w fun e w'=>e=.returned (.bool true)/\Kp [] w w':=by
 have H:=rO (src:=IZ) (fr:=0) (by decide) (by decide);have q:=bp_ok
 cases e:gI IZ 0 with
 | error z=>rw [e] at q;cases q
 | ok z=>
  obtain ⟨G,x⟩:=z;rw [e] at H q;obtain ⟨hq,_,hr⟩:=H;simp only [Oj,beq_iff_eq] at q;obtain ⟨rfl,q⟩:=q;refine Ie (a:=1) (b:=3) hw (by decide) (by decide) hq.dd (qT (q:=⟨IZ,0,x⟩) hq).bg hr (fun B w p pt=>zY (hq.ok.sm noB) pt) (fun s' h=>?_)
  cases e:runsF (cdL (codeOf x.pi)) (1+x.pi.len) x.pi.dd abbc (x.pi.em 1 0 0).2 50 5 0 [] mc0 with
  | none=>rw [e] at q;cases q
  | some r=>
   have:=AY (F:=50) _ _ _ _ h e;subst this;rw [e] at q;simp only [OJ,Option.some.injEq,Prod.mk.injEq] at q;exact ⟨q.1,q.2.1,q.2.2⟩
theorem works_t (hw:Nm w) (hpw:Pow w):Calls Tryz.prog 8 #[] w fun r w'=>r=.returned (.bool true)/\Kp [] w w':=by
 have H1:=hid (Lh hw);have H2:Hid (∀ w1,Kp [] w w1->Calls Tryz.prog 21 #[.string ⟨#[115,47,98,47,120,47]⟩,.string ⟨#[97,98,99,10,97,98]⟩,.string ⟨#[97,120,99,10,97,120,10]⟩,.int .i64 0] w1 fun r w'=>r=.returned (.bool true)/\Kp [] w1 w'):=hid (fun w1 k1=>does_wk (hw.aj k1 (by simp)) (hpw.aj k1));clear hw hpw;go_enter Tryz.func8,Tryz.ntmps8
 go_wp2_with fail;refine H1.out.mono ?_;rintro r w1 ⟨rfl,k1⟩;go_wp2_with fail;refine (H2.out w1 k1).mono ?_;rintro r w2 ⟨rfl,k2⟩;go_wp2_with fail;go_ret;exact ⟨rfl,k1.trans k2⟩
end
