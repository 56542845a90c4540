import Derived.Test.YtiahkfoojjpaaaaGreatDoorT45
set_option maxRecDepth 100000
set_option maxHeartbeats 16000000
set_option linter.all false
namespace Go.Proofs.YtiahkfoojjpaaaaGreatDoor
open Go.RowKit
theorem DV {p q r:Nat} {E k:Nat} {w:World} {v0 v1 v2:Value} (h0:w.cell? ⟨p,0,none⟩=some v0) (h1:w.cell? ⟨q,0,none⟩=some v1) (h2:w.cell? ⟨r,0,none⟩=some v2) (f0:w.frozen? ⟨p,0,none⟩=false) (f1:w.frozen? ⟨q,0,none⟩=false) (f2:w.frozen? ⟨r,0,none⟩=false) (hpq:p≠q) (hpr:p≠r) (hqr:q≠r) :
  CallsD Tryz.prog 86 #[.pointer (some ⟨p,0,none⟩),.pointer (some ⟨q,0,none⟩),.pointer (some ⟨r,0,none⟩)] (.panicking [{ v:=Jt E k,recovered:=false }]) w fun e u' w'=>e=.returned (.tuple #[])/\u'=.panicking [{ v:=Jt E k,recovered:=true }]/\Kp [p,q,r] w w'/\w'.cell? ⟨p,0,none⟩=some (.pointer none)/\w'.cell? ⟨q,0,none⟩=some (.int .i64 (E:Int))/\w'.cell? ⟨r,0,none⟩=some (.int .i64 (k:Int)):=by
 have hta:∀ w:World,(Instr.typeAssert (Jt E k) 20 118 true).run Tryz.prog w=.ok (.tuple #[.agg #[.int .i64 (E:Int),.int .i64 (k:Int)],.bool true]) w:=fun w=>by kernel_rfl
 refine callsD_of_wpS Tryz.func86 rfl fun c₀ cs hu=>?_;apply wpS_seq;apply wpS_region;simp [wpOpsS,go_sem,recoverD,hu,Tryz.ntmps86,Exit.thenS];refine wpS_of_wp ?_;have hrep:(Array.replicate 13 undef:Array Value)=#[undef,undef,undef,undef,undef,undef,undef,undef,undef,undef,undef,undef,undef]:=rfl;rw [hrep];simp only [OI,Om,OK,Ni,Np,Nq];have ka:=Kp.alloc [] w (.cells #[.int .i64 (E:Int),.int .i64 (k:Int)] 118);have BN:=Bl.alloc w [.int .i64 (E:Int),.int .i64 (k:Int)] 118;have lp:=World.block_lt_of_cell? _ _ h0;have lq:=World.block_lt_of_cell? _ _ h1;have lr:=World.block_lt_of_cell? _ _ h2;have g0:=(ka.cell (p:=⟨p,0,none⟩) lp (by simp)).trans h0;have g1:=(ka.cell (p:=⟨q,0,none⟩) lq (by simp)).trans h1;have g2:=(ka.cell (p:=⟨r,0,none⟩) lr (by simp)).trans h2;have e0:=(ka.frozen (p:=⟨p,0,none⟩) lp (by simp)).trans f0;have e1:=(ka.frozen (p:=⟨q,0,none⟩) lq (by simp)).trans f1;have e2:=(ka.frozen (p:=⟨r,0,none⟩) lr (by simp)).trans f2
 go_upto_region 7 with fail
 obtain ⟨t,ht⟩:∃ t,t=w.heap.size:=⟨_,rfl⟩;obtain ⟨W,hW⟩:∃ W,W=w.alloc (.cells #[.int .i64 (E:Int),.int .i64 (k:Int)] 118):=⟨_,rfl⟩;have hpt:p≠t:=by have lp:p < w.heap.size:=lp;omega
 have hqt:q≠t:=by have lq:q < w.heap.size:=lq;omega
 have hrt:r≠t:=by have lr:r < w.heap.size:=lr;omega
 rw [<-ht,<-hW] at BN;rw [<-hW] at g0 g1 g2 e0 e1 e2 ka;rw [<-ht,<-hW];have c0:=BN.at_ 0 _ rfl;have c1:=BN.at_ 1 _ rfl;have KA:=hid ka;clear ht hW lp lq lr BN ka h0 h1 h2 f0 f1 f2;have FIN:Kp [p,q,r] w (((W.setCell ⟨p,0,none⟩ (.pointer none)).setCell ⟨q,0,none⟩ (.int .i64 (E:Int))).setCell ⟨r,0,none⟩ (.int .i64 (k:Int))).drew/\(((W.setCell ⟨p,0,none⟩ (.pointer none)).setCell ⟨q,0,none⟩ (.int .i64 (E:Int))).setCell ⟨r,0,none⟩ (.int .i64 (k:Int))).drew.cell? ⟨p,0,none⟩=some (.pointer none)/\(((W.setCell ⟨p,0,none⟩ (.pointer none)).setCell ⟨q,0,none⟩ (.int .i64 (E:Int))).setCell ⟨r,0,none⟩ (.int .i64 (k:Int))).drew.cell? ⟨q,0,none⟩=some (.int .i64 (E:Int))/\(((W.setCell ⟨p,0,none⟩ (.pointer none)).setCell ⟨q,0,none⟩ (.int .i64 (E:Int))).setCell ⟨r,0,none⟩ (.int .i64 (k:Int))).drew.cell? ⟨r,0,none⟩=some (.int .i64 (k:Int)):=by
  have a1:(W.setCell ⟨p,0,none⟩ (.pointer none)).cell? ⟨q,0,none⟩=some v1:=(aq _ (fun e=>by injection e with e _ _;exact hpq e)).trans g1;have a2:((W.setCell ⟨p,0,none⟩ (.pointer none)).setCell ⟨q,0,none⟩ (.int .i64 (E:Int))).cell? ⟨r,0,none⟩=some v2:=(aq _ (fun e=>by injection e with e _ _;exact hqr e)).trans ((aq _ (fun e=>by injection e with e _ _;exact hpr e)).trans g2);refine ⟨(KA.out.mono (by simp)).trans ((Kp.setCell _ _ (by simp)).trans ((Kp.setCell _ _ (by simp)).trans ((Kp.setCell _ _ (by simp)).trans (Kp.drew _ _)))),?_,?_,?_⟩
  .exact (aq _ (fun e=>by injection e with e _ _;exact hpr e.symm)).trans ((aq _ (fun e=>by injection e with e _ _;exact hpq e.symm)).trans (aw _ g0))
  .exact (aq _ (fun e=>by injection e with e _ _;exact hqr e.symm)).trans (aw _ a1)
  .exact aw _ a2
 have HF:=hid FIN;clear FIN;go_region_with fail
 all_goals
  obtain ⟨b1,b2,b3,b4⟩:=HF.out;clear HF;generalize (((W.setCell ⟨p,0,none⟩ (.pointer none)).setCell ⟨q,0,none⟩ (.int .i64 (E:Int))).setCell ⟨r,0,none⟩ (.int .i64 (k:Int))).drew=W4 at *;exact ⟨rfl,_,rfl,_,results_none rfl _ _ _,rfl,rfl,b1,b2,b3,b4⟩
theorem DT {E k a:Nat} {src:ByteArray} {w:World} (hw:Nm w) (ha:w.cell? ⟨a,0,none⟩=some (.string src)) (h:∀ W:World,Nm W->W.cell? ⟨a,0,none⟩=some (.string src)->Calls Tryz.prog 45 #[.pointer (some ⟨a,0,none⟩)] W fun e w'=>e=gN E k/\Kp [] W w') :
  Calls Tryz.prog 44 #[.func (.func 45) #[] #[.pointer (some ⟨a,0,none⟩)]] w fun e w'=>e=.returned (.tuple #[.pointer none,.int .i64 (E:Int),.int .i64 (k:Int)])/\Kp [] w w':=by
 have hmf:∀ (fn:Fn) (first cap:Array Value) (w:World),(Instr.makeFunc fn first cap).run Tryz.prog w=.ok (.func fn first cap) w:=fun _ _ _ _=>rfl;go_enter_defers Tryz.func44,Tryz.ntmps44
 go_wp2_with fail;obtain ⟨W,hW⟩:∃ W:World,W=((w.alloc (.cells #[.pointer none] 66)).alloc (.cells #[.int .i64 0] 24)).alloc (.cells #[.int .i64 0] 3):=⟨_,rfl⟩;have kW:Kp [] w W:=by rw [hW];exact (Kp.alloc _ _ _).trans ((Kp.alloc _ _ _).trans (Kp.alloc _ _ _))
 have zW:W.heap.size=w.heap.size+3:=by rw [hW];simp
 have a0:W.cell? ⟨w.heap.size,0,none⟩=some (.pointer none):=by rw [hW];simp [go_sem]
 have a1:W.cell? ⟨w.heap.size+1,0,none⟩=some (.int .i64 0):=by rw [hW];simp [go_sem]
 have a2:W.cell? ⟨w.heap.size+1+1,0,none⟩=some (.int .i64 0):=by rw [hW];simp [go_sem]
 have f0:W.frozen? ⟨w.heap.size,0,none⟩=false:=by rw [hW];simp [go_sem]
 have f1:W.frozen? ⟨w.heap.size+1,0,none⟩=false:=by rw [hW];simp [go_sem]
 have f2:W.frozen? ⟨w.heap.size+1+1,0,none⟩=false:=by rw [hW];simp [go_sem]
 rw [<-hW];clear hW;refine (h W (hw.aj kW (by simp)) ((kW.cell (p:=⟨a,0,none⟩) (World.block_lt_of_cell? _ _ ha) (by simp)).trans ha)).mono ?_;rintro e w1 ⟨rfl,k1⟩;have b0:=(k1.cell (p:=⟨w.heap.size,0,none⟩) (by simp;omega) (by simp)).trans a0;have b1:=(k1.cell (p:=⟨w.heap.size+1,0,none⟩) (by simp;omega) (by simp)).trans a1;have b2:=(k1.cell (p:=⟨w.heap.size+1+1,0,none⟩) (by simp;omega) (by simp)).trans a2;have g0:=(k1.frozen (p:=⟨w.heap.size,0,none⟩) (by simp;omega) (by simp)).trans f0;have g1:=(k1.frozen (p:=⟨w.heap.size+1,0,none⟩) (by simp;omega) (by simp)).trans f1;have g2:=(k1.frozen (p:=⟨w.heap.size+1+1,0,none⟩) (by simp;omega) (by simp)).trans f2;clear a0 a1 a2 f0 f1 f2;go_wp2_with fail;refine leaves_cons (f:=86) (args:=#[.pointer (some ⟨w.heap.size,0,none⟩),.pointer (some ⟨w.heap.size+1,0,none⟩),.pointer (some ⟨w.heap.size+1+1,0,none⟩)]) (by simp) (by simp [go_sem]) ?_;refine (DV b0 b1 b2 g0 g1 g2 (by omega) (by omega) (by omega)).mono ?_
 rintro e u' w2 ⟨rfl,rfl,k2,d0,d1,d2⟩;have K2:=Kp.own (x:=w.heap.size) (Kp.own (x:=w.heap.size+1) (Kp.own (x:=w.heap.size+1+1) (S:=[w.heap.size+1,w.heap.size]) (((kW.trans k1).mono (by simp)).trans (k2.mono (by simp))) (by omega)) (by omega)) (by omega);simp [Leaves,settle,results,Tryz.results44,go_sem,d0,d1,d2];exact K2
theorem yI {E k a:Nat} {src:ByteArray} (h:ph src 0 E k) (W:World) (hW:Nm W) (ha:W.cell? ⟨a,0,none⟩=some (.string src)):Calls Tryz.prog 45 #[.pointer (some ⟨a,0,none⟩)] W fun e w'=>e=gN E k/\Kp [] W w':=by
 have H:=hid (h W hW);clear h;go_enter Tryz.func45,Tryz.ntmps45
 go_wp2_with fail;refine H.out.mono ?_;rintro e w1 ⟨rfl,k1⟩;go_wp2_with fail;exact ⟨rfl,rfl,k1⟩
theorem pG {E k:Nat} {src:ByteArray} {w:World} (hw:Nm w) (h:ph src 0 E k):Calls Tryz.prog 31 #[.string src] w fun e w'=>e=.returned (.tuple #[.pointer none,.int .i64 (E:Int),.int .i64 (k:Int)])/\Kp [] w w':=by
 have hmf:∀ (fn:Fn) (first cap:Array Value) (w:World),(Instr.makeFunc fn first cap).run Tryz.prog w=.ok (.func fn first cap) w:=fun _ _ _ _=>rfl;have k0:=Kp.alloc [] w (.cells #[.string src] 9);go_enter Tryz.func31,Tryz.ntmps31
 go_wp2_with fail;refine (DT (a:=w.heap.size) (src:=src) (hw.aj k0 (by simp)) (by simp) (yI h)).mono ?_;rintro e w1 ⟨rfl,k1⟩;go_wp2_with fail;go_ret3
 exact ⟨rfl,k0.trans k1⟩
def MatO (w:World) (text:ByteArray):Except rf (Nat×Pn)->Ending->World->Prop
 | .error (E,k),e,w'=>e=.returned (.tuple #[.slice none 0 0,.int .i64 (E:Int),.int .i64 (k:Int)])/\Kp [] w w'
 | .ok (G,x),e,w'=>Kp [] w w'/\∃ s',Runs (cdL (codeOf x.pi)) (1+x.pi.len) x.pi.dd text (x.pi.em 1 0 0).2 (text.size+1) 0 [] mc0 s' /\
   ((s'.fd=false/\e=.returned (.tuple #[.slice none 0 0,.int .i64 0,.int .i64 0])) \/
    (s'.fd=true/\∃ q z,e=.returned (.tuple #[.slice (some ⟨q,0,none⟩) (2+2 * G) z,.int .i64 0,.int .i64 0])/\w'.ownsRow w.heap.size 3 1 (.slice (some ⟨q,0,none⟩) (2+2 * G) z) (2+2 * G) ((nf s'.dQ).take (2+2 * G))))
def MH (src text:ByteArray):Except rf (Nat×Pn):=if 1000 < text.size then .error (1,0) else gI src 0
theorem yX (src text:ByteArray) (hs:src.size < 4611686018427387904) {w:World} (hw:Nm w):Calls Tryz.prog 19 #[.string src,.string text] w (MatO w text (MH src text)):=by
 unfold MH;by_cases h1:1000 < text.size
 .rw [Ny h1];have hts:(1000:Int) < text.size:=by omega
  go_enter Tryz.func19,Tryz.ntmps19
  go_wp2_with fail;go_ret3
  exact ⟨rfl,Kp.refl _ _⟩
 .rw [Nr h1];have hts:¬ (1000:Int) < text.size:=by omega
  have H:match gI src 0 with
    | .ok (G,x)=>pR G x/\src.size<=100+0/\Reads src 0 G (1+x.pi.len) ((x.pi.em 1 0 0).2:Nat) x.pi.dd (aW (codeOf x.pi))
    | .error (E,pl)=>ph src 0 E pl/\1<=E/\E<=3:=by
   by_cases h2:100+0 < src.size
   .rw [show gI src 0=.error (1,0) by unfold gI;rw [Ny h2]];exact ⟨oe h2 hs,by omega,by omega⟩
   .exact rO (src:=src) (fr:=0) (by omega) (NI _)
  cases e:gI src 0 with
  | error z=>
   obtain ⟨E,k⟩:=z;rw [e] at H;obtain ⟨hF,hE,_⟩:=H;have hq:((E:Int) == 0)=false:=by rw [Nz];omega
   have HF:=hid (pG hw hF);clear hF hE e hw;go_enter Tryz.func19,Tryz.ntmps19
   go_wp2_with fail;refine HF.out.mono ?_;rintro e w1 ⟨rfl,k1⟩;go_wp2_with fail;go_ret3
   exact ⟨rfl,k1⟩
  | ok z=>
   obtain ⟨G,x⟩:=z;rw [e] at H;obtain ⟨hq,hsz,hr⟩:=H;have HR:=hid (gZ hw (by omega) (by omega) hr);have HQ:=hid hq;have HT:=hid h1;clear hr e hw hq hsz h1;go_enter Tryz.func19,Tryz.ntmps19
   go_wp2_with fail;refine HR.out.mono ?_;rintro e w1 ⟨p,rfl,pt,k1⟩;obtain ⟨g,c,hcd1⟩:=zY (HQ.out.ok.sm noB) pt;have HCD:=hid (And.intro hcd1 (And.intro pt.c1 pt.c2));clear hcd1 pt HR;go_wp2_with fail;refine (Ca (bg:=(x.pi.em 1 0 0).2) (G:=G) HCD.out.1 HCD.out.2.1 HCD.out.2.2 (qT (q:=⟨src,G,x⟩) HQ.out).bg HQ.out.dd HQ.out.g (by have:=HT.out;omega)).mono ?_;rintro e w2 ⟨k2,s',runs,hr⟩;have HRU:=hid runs;clear runs;rcases hr with ⟨hfd,rfl⟩ | ⟨hfd,b,z,rfl,hc⟩
   .have HFD:=hid hfd;clear hfd;go_wp2_with fail;go_ret3
    exact ⟨k1.trans k2,s',HRU.out,.inl ⟨HFD.out,rfl⟩⟩
   .have HC:=hid (And.intro hfd (aQ hc k1.size));clear hc hfd;go_wp2_with fail;go_ret3
    exact ⟨k1.trans k2,s',HRU.out,.inr ⟨HC.out.1,b,z,rfl,HC.out.2⟩⟩
section
variable {cd:Nat->In} {n D:Nat} {text:ByteArray}
theorem uE {pl F:Nat} {r:Mc}:∀ (l:List Thr) (s:Mc),sweepF cd n D text F pl l s=some r->Sweep cd n D text pl l s r
 | [],s,e=>by rw [sweepF] at e;rw [Sweep];exact (Option.some.inj e).symm
 | t::l,s,e=>by
  rw [sweepF] at e;rw [Sweep];by_cases h:s.fd=true/\s.dQ 0 < t.x 0
  .rw [Ny h] at e;exact .inl ⟨h.1,h.2,(Option.some.inj e).symm⟩
  .rw [Nr h] at e
   cases q:drive cd n D text pl F (some t) s with
   | none=>rw [q] at e;cases e
   | some s1=>
    rw [q] at e;exact .inr ⟨h,s1,⟨F,q⟩,uE l s1 e⟩
theorem A9 {bg F:Nat} {r:Mc}:∀ (k pl:Nat) (here:List Thr) (s:Mc),runsF cd n D text bg F k pl here s=some r->Runs cd n D text bg k pl here s r
 | 0,pl,here,s,e=>by rw [runsF] at e;rw [Runs];exact (Option.some.inj e).symm
 | k+1,pl,here,s,e=>by
  rw [runsF] at e;rw [Runs];generalize (if s.fd=true then here else here++[⟨bg,0,nz pl⟩])=hh at e ⊢
  cases hh with
  | nil=>exact .inl ⟨rfl,(Option.some.inj e).symm⟩
  | cons t l=>
   dsimp only at e
   cases q:sweepF cd n D text F pl (t::l) s with
   | none=>rw [q] at e;cases e
   | some s1=>
    rw [q] at e;exact .inr ⟨by simp,s1,uE _ _ q,A9 k (pl+1) _ _ e⟩
end
section
variable {q:Ptn} {t:ByteArray} {fr:Nat} {s r:Mc} {F:Nat}
def srchF (q:Ptn) (t:ByteArray) (F fr:Nat) (s:Mc):Option Mc:=runsF q.cd q.n q.D t q.bg F (t.size+1 - fr) fr [] { s with fd:=false }
theorem JN (h:srchF q t F fr s=some r):ud q t fr s=r:=jS (A9 _ _ _ _ h)
def plcFF (q:Ptn) (t:ByteArray) (F:Nat):Nat->Nat->Mc->Option (List (Nat->Int))
 | 0,_,_=>some []
 | k+1,fr,s=>match srchF q t F fr s with
  | none=>none
  | some r=>if r.fd then (match plcFF q t F k (r.dQ 1).toNat r with
    | none=>none
    | some l=>some (r.dQ::l))
   else some []
theorem Bn:∀ (k fr:Nat) (s:Mc) (l:List (Nat->Int)),plcFF q t F k fr s=some l->plcF q t k fr s=l
 | 0,_,_,l,e=>by injection e
 | k+1,fr,s,l,e=>by
  rw [plcFF] at e;rw [plcF]
  cases h:srchF q t F fr s with
  | none=>rw [h] at e;cases e
  | some r=>
   rw [h] at e;dsimp only at e;rw [JN h]
   cases hf:r.fd with
   | false=>
    rw [hf] at e;injection e
   | true=>
    rw [hf] at e;rw [Ny rfl] at e ⊢
    cases h2:plcFF q t F k (r.dQ 1).toNat r with
    | none=>rw [h2] at e;cases e
    | some l2=>
     rw [h2] at e;injection e with e;rw [Bn k _ _ l2 h2,e]
def uT (F:Nat) (c:du) (sp:List UInt8):Option (Option (List UInt8)):=
 match c.pat with
 | none=>some none
 | some q=>match plcFF q (ba sp) F (((ba sp).size+1) * (q.n * (q.D+1))+1) 0 mc0 with
  | none=>none
  | some l=>some (if (replL c sp l ⟨0,[],0,false⟩).ok then some ((replL c sp l ⟨0,[],0,false⟩).acc++sp.drop (replL c sp l ⟨0,[],0,false⟩).done) else none)
theorem oa {c:du} {sp:List UInt8} {x:Option (List UInt8)} (h:uT F c sp=some x):gH c sp=x:=by
 unfold uT at h;unfold gH
 cases hp:c.pat with
 | none=>rw [hp] at h;injection h
 | some q=>
  rw [hp] at h;dsimp only at h ⊢
  cases hl:plcFF q (ba sp) F (((ba sp).size+1) * (q.n * (q.D+1))+1) 0 mc0 with
  | none=>rw [hl] at h;cases h
  | some l=>
   rw [hl] at h;have e:q.C5 sp=l:=Bn _ _ _ l hl;rw [e];injection h
end
def wkS:fj:=match scrE ⟨#[115,47,98,47,120,47]⟩ with
 | .ok S=>S
 | .error _=>⟨false,[],[],0⟩
theorem wk_read:(match scrE ⟨#[115,47,98,47,120,47]⟩ with | .ok _=>true | .error _=>false)=true:=by decide +kernel
theorem wk_scr:scrE ⟨#[115,47,98,47,120,47]⟩=.ok wkS:=by
 have h:=wk_read;unfold wkS
 cases hs:scrE ⟨#[115,47,98,47,120,47]⟩ with
 | error q=>rw [hs] at h;cases h
 | ok S=>rfl
theorem pW:wkS.aE.length=1/\wkS.quiet=false/\wkS.names.length=0/\wkS.ranges=0:=by decide +kernel
theorem wk_r1:(wkS.aE[0]?.map fun c=>uT 50 c [97,98,99])=some (some (some [97,120,99])):=by decide +kernel
theorem wk_r2:(wkS.aE[0]?.map fun c=>uT 50 c [97,98])=some (some (some [97,120])):=by decide +kernel
theorem wk_cmd:∃ c,wkS.aE=[c]/\c.what=115/\c.fq=[]/\c.neg=false/\c.print=false/\c.name.size=0/\gH c [97,98,99]=some [97,120,99]/\gH c [97,98]=some [97,120]:=by
 have hl:=pW.1;have r1:=wk_r1;have r2:=wk_r2;have f:(wkS.aE[0]?.map fun c=>(c.what,c.fq.length,c.neg,c.print,c.name.size))=some (115,0,false,false,0):=by decide +kernel
 match hc:wkS.aE,hl with
 | [c],_=>
  rw [hc] at r1 r2 f;simp only [OO,OJ,Option.some.injEq,Prod.mk.injEq] at r1 r2 f;exact ⟨c,rfl,f.1,NN f.2.1,f.2.2.1,f.2.2.2.1,f.2.2.2.2,oa r1,oa r2⟩
section
variable {S:fj} {u u1 u2:Ust} {k:Nat}
theorem gY (h:u.over=false) (h1:u.aI=.ok (some u1)) (h2:u1.look S=.ok u2):Ust.runF S (k+1) u=Ust.runF S k u2:=by
 rw [Ust.runF,Nr (by rw [h];simp),h1];dsimp only;rw [h2]
theorem Bf (h:u.over=false) (h1:u.aI=.ok none):Ust.runF S (k+1) u=.ok u:=by
 rw [Ust.runF,Nr (by rw [h];simp),h1]
theorem MQ {c:du} {t:List UInt8} (hS:S.aE=[c]) (h1:c.what=115) (h2:c.fq=[]) (h3:c.neg=false) (h4:c.print=false) (h5:c.name.size=0) (hp:u.pc=0) (hst:u.steps < 2000) (hr:gH c u.space=some t) (ht:t.length<=4000) :
  u.look S=.ok { u with pc:=1,steps:=u.steps+1,space:=t,fN:=true }:=by
 unfold Ust.look;rw [hS,hp];simp only [OO];rw [Nr (by rw [h1];simp),Nr (by omega)];unfold Ust.addressed;rw [h2];dsimp only;rw [h3,Ny (by rfl)];unfold Ust.fW;rw [h1];simp only [reduceIte,Nat.reduceEqDiff];rw [gj];show (match gH c u.space with | none=>_ | some t=>_)=_;rw [hr];dsimp only;rw [Nr (by omega),h4,Nr (by simp)];show gC c _=_;unfold gC;rw [Ny h5]
theorem Hl (hp:S.aE[u.pc]? = none) (hq:S.quiet=false) (hb:u.br=[]) (hc:u.count+u.space.length+1<=200000) :
  u.look S=.ok { u with count:=u.count+u.space.length+1,out:=u.out++u.space++[10],aH:=.bw }:=by
 unfold Ust.look;rw [hp];dsimp only;rw [hq];unfold Ust.eE Ust.eJ;rw [Nr (by simp)];unfold Ust.tell;rw [Nr (by omega)];dsimp only;rw [lD];have e:∀ x:Ust,x.br=[]->noBrR (Ust.tellL x.br x)=.ok x:=fun x hx=>by
  rw [hx];obtain ⟨left,ahead,ended,count,number,space,held,aH,pc,steps,fN,over,err,status,out,fb,rg,br⟩:=x
  cases hx
  rfl
 rw [e { u with count:=u.count+u.space.length+1,out:=u.out++u.space++[10] } hb]
end
theorem Ej:((fX false 0 0).feed wkS [97,98,99,10,97,98])=(⟨[97,120,99,10],false,0,0⟩,{ fX false 0 0 with left:=[97,98],count:=4,number:=1,space:=[97,120,99],pc:=1,steps:=1,fN:=true }) /\
  ({ fX false 0 0 with left:=[97,98],count:=4,number:=1,space:=[97,120,99],pc:=1,steps:=1,fN:=true }:Ust).end_ wkS=(⟨[97,120,10],true,0,0⟩,{ fX false 0 0 with ended:=true,over:=true,count:=7,number:=2,space:=[97,120],pc:=1,steps:=1,fN:=true }):=by
 obtain ⟨c,hc,h1,h2,h3,h4,h5,r1,r2⟩:=wk_cmd;have hq:=pW.2.1;constructor
 .unfold Ust.feed;rw [Nr (by rw [show (fX false 0 0).over=false from rfl];simp),uQ];have hf:({ fX false 0 0 with left:=(fX false 0 0).left++[97,98,99,10,97,98] }:Ust).fuel wkS=42066+1+1+1+1:=by
   unfold Ust.fuel;rw [pW.1]
   rfl
  rw [hf];rw [gY (u1:={ fX false 0 0 with left:=[97,98],number:=1,aH:=.no,space:=[97,98,99] }) rfl rfl (MQ hc h1 h2 h3 h4 h5 rfl (by show 0 < 2000;omega) r1 (by decide))];rw [gY rfl rfl (Hl (by rw [hc];rfl) hq rfl (by decide))];rw [Bf rfl rfl]
  rfl
 .unfold Ust.end_;rw [Nr (by rw [show ({ fX false 0 0 with left:=[97,98],count:=4,number:=1,space:=[97,120,99],pc:=1,steps:=1,fN:=true }:Ust).over=false from rfl];simp),uQ];have hf:({ fX false 0 0 with left:=[97,98],count:=4,number:=1,space:=[97,120,99],pc:=1,steps:=1,fN:=true,ended:=true }:Ust).fuel wkS=18026+1+1+1+1:=by
   unfold Ust.fuel;rw [pW.1]
   rfl
  rw [hf];rw [gY (u1:={ fX false 0 0 with ended:=true,left:=[],count:=4,number:=2,aH:=.no,space:=[97,98] }) rfl rfl (MQ hc h1 h2 h3 h4 h5 rfl (by show 0 < 2000;omega) r2 (by decide))];rw [gY rfl rfl (Hl (by rw [hc];rfl) hq rfl (by decide))];rw [Bf rfl rfl]
  rfl
