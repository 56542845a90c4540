import Derived.Test.YtiahkfoojjpaaaaGreatDoorS10
set_option maxRecDepth 100000
set_option maxHeartbeats 16000000
set_option linter.all false
namespace Go.Proofs.YtiahkfoojjpaaaaGreatDoor
open Go.RowKit
abbrev fltV(E k:Nat):Value:=.iface 118 (.agg #[.int .i64 (E:Int),.int .i64 (k:Int)])
theorem tJ{p q r:Nat}{E k:Nat}{w:World}{v0 v1 v2:Value}(h0:w.cell? ⟨p,0,none⟩=some v0)(h1:w.cell? ⟨q,0,none⟩=some v1)(h2:w.cell? ⟨r,0,none⟩=some v2)(f0:w.frozen? ⟨p,0,none⟩=false)(f1:w.frozen? ⟨q,0,none⟩=false)(f2:w.frozen? ⟨r,0,none⟩=false)(hpq:p≠q)(hpr:p≠r)(hqr:q≠r):CallsD Tryz.prog 49 #[.pointer (some ⟨p,0,none⟩),.pointer (some ⟨q,0,none⟩),.pointer (some ⟨r,0,none⟩)] (.panicking [{ v:=fltV E k,recovered:=false}]) w fun e u' w'=>e=.returned (.tuple #[])/\u'=.panicking [{ v:=fltV E k,recovered:=true}]/\Kp [p,q,r] w w'/\w'.cell? ⟨p,0,none⟩=some (.pointer none)/\w'.cell? ⟨q,0,none⟩=some (.int .i64 (E:Int))/\w'.cell? ⟨r,0,none⟩=some (.int .i64 (k:Int)):=by
 have hta:∀w:World,(Instr.typeAssert (fltV E k) 20 118 true).run Tryz.prog w=.ok (.tuple #[.agg #[.int .i64 (E:Int),.int .i64 (k:Int)],.bool true]) w:=fun w=>by kernel_rfl
 refine callsD_of_wpS Tryz.func49 rfl fun c₀ cs hu=>?_;apply wpS_seq;apply wpS_region;simp[wpOpsS,go_sem,recoverD,hu,Tryz.ntmps49,Exit.thenS];refine wpS_of_wp ?_;have hrep:(Array.replicate 13 undef:Array Value)=#[undef,undef,undef,undef,undef,undef,undef,undef,undef,undef,undef,undef,undef]:=rfl;rw[hrep];simp only[Sp,QS,Rx,Qq,Qu,Qv];have ka:=Kp.alloc [] w (.cells #[.int .i64 (E:Int),.int .i64 (k:Int)] 118);have BN:=Bl.alloc w [.int .i64 (E:Int),.int .i64 (k:Int)] 118;have lp:=World.block_lt_of_cell? _ _ h0;have lq:=World.block_lt_of_cell? _ _ h1;have lr:=World.block_lt_of_cell? _ _ h2;have g0:=(ka.cell (p:=⟨p,0,none⟩) lp (by simp)).trans h0;have g1:=(ka.cell (p:=⟨q,0,none⟩) lq (by simp)).trans h1;have g2:=(ka.cell (p:=⟨r,0,none⟩) lr (by simp)).trans h2;have e0:=(ka.frozen (p:=⟨p,0,none⟩) lp (by simp)).trans f0;have e1:=(ka.frozen (p:=⟨q,0,none⟩) lq (by simp)).trans f1;have e2:=(ka.frozen (p:=⟨r,0,none⟩) lr (by simp)).trans f2
 go_upto_region 7 with fail
 obtain⟨t,ht⟩:∃t,t=w.heap.size:=⟨_,rfl⟩;obtain⟨W,hW⟩:∃W,W=w.alloc (.cells #[.int .i64 (E:Int),.int .i64 (k:Int)] 118):=⟨_,rfl⟩;have hpt:p≠t:=by have lp:p<w.heap.size:=lp;omega
 have hqt:q≠t:=by have lq:q<w.heap.size:=lq;omega
 have hrt:r≠t:=by have lr:r<w.heap.size:=lr;omega
 rw[<-ht,<-hW] at BN;rw[<-hW] at g0 g1 g2 e0 e1 e2 ka;rw[<-ht,<-hW];have c0:=BN.at_ 0 _ rfl;have c1:=BN.at_ 1 _ rfl;have KA:=hid ka;clear ht hW lp lq lr BN ka h0 h1 h2 f0 f1 f2;have FIN:Kp [p,q,r] w (((W.setCell ⟨p,0,none⟩ (.pointer none)).setCell ⟨q,0,none⟩ (.int .i64 (E:Int))).setCell ⟨r,0,none⟩ (.int .i64 (k:Int))).drew/\(((W.setCell ⟨p,0,none⟩ (.pointer none)).setCell ⟨q,0,none⟩ (.int .i64 (E:Int))).setCell ⟨r,0,none⟩ (.int .i64 (k:Int))).drew.cell? ⟨p,0,none⟩=some (.pointer none)/\(((W.setCell ⟨p,0,none⟩ (.pointer none)).setCell ⟨q,0,none⟩ (.int .i64 (E:Int))).setCell ⟨r,0,none⟩ (.int .i64 (k:Int))).drew.cell? ⟨q,0,none⟩=some (.int .i64 (E:Int))/\(((W.setCell ⟨p,0,none⟩ (.pointer none)).setCell ⟨q,0,none⟩ (.int .i64 (E:Int))).setCell ⟨r,0,none⟩ (.int .i64 (k:Int))).drew.cell? ⟨r,0,none⟩=some (.int .i64 (k:Int)):=by
  have a1:(W.setCell ⟨p,0,none⟩ (.pointer none)).cell? ⟨q,0,none⟩=some v1:=(aq _ (fun e=>by injection e with e _ _;exact hpq e)).trans g1;have a2:((W.setCell ⟨p,0,none⟩ (.pointer none)).setCell ⟨q,0,none⟩ (.int .i64 (E:Int))).cell? ⟨r,0,none⟩=some v2:=(aq _ (fun e=>by injection e with e _ _;exact hqr e)).trans ((aq _ (fun e=>by injection e with e _ _;exact hpr e)).trans g2);refine⟨(KA.out.mono (by simp)).trans ((Kp.setCell _ _ (by simp)).trans ((Kp.setCell _ _ (by simp)).trans ((Kp.setCell _ _ (by simp)).trans (Kp.drew _ _)))),?_,?_,?_⟩
  .exact(aq _ (fun e=>by injection e with e _ _;exact hpr e.symm)).trans ((aq _ (fun e=>by injection e with e _ _;exact hpq e.symm)).trans (aw _ g0))
  .exact(aq _ (fun e=>by injection e with e _ _;exact hqr e.symm)).trans (aw _ a1)
  .exact aw _ a2
 have HF:=hid FIN;clear FIN;go_region_with fail
 all_goals
  obtain⟨b1,b2,b3,b4⟩:=HF.out;clear HF;generalize (((W.setCell ⟨p,0,none⟩ (.pointer none)).setCell ⟨q,0,none⟩ (.int .i64 (E:Int))).setCell ⟨r,0,none⟩ (.int .i64 (k:Int))).drew=W4 at *;exact⟨rfl,_,rfl,_,results_none rfl _ _ _,rfl,rfl,b1,b2,b3,b4⟩
abbrev iG(E k:Nat):Ending:=.panicked [{ v:=fltV E k,recovered:=false}]
theorem caughtS_flt{E k a:Nat}{src:ByteArray}{w:World}(ha:w.cell? ⟨a,0,none⟩=some (.string src))(h:∀W:World,W.cell? ⟨a,0,none⟩=some (.string src)->Calls Tryz.prog 34 #[.pointer (some ⟨a,0,none⟩)] W fun e w'=>e=iG E k/\Kp [] W w'):Calls Tryz.prog 33 #[.func (.func 34) #[] #[.pointer (some ⟨a,0,none⟩)]] w fun e w'=>e=.returned (.tuple #[.pointer none,.int .i64 (E:Int),.int .i64 (k:Int)])/\Kp [] w w':=by
 have hmf:∀(fn:Fn) (first cap:Array Value) (w:World),(Instr.makeFunc fn first cap).run Tryz.prog w=.ok (.func fn first cap) w:=fun _ _ _ _=>rfl;go_enter_defers Tryz.func33,Tryz.ntmps33
 go_wp2_with fail;obtain⟨W,hW⟩:∃W:World,W=((w.alloc (.cells #[.pointer none] 53)).alloc (.cells #[.int .i64 0] 24)).alloc (.cells #[.int .i64 0] 3):=⟨_,rfl⟩;have kW:Kp [] w W:=by rw[hW];exact(Kp.alloc _ _ _).trans ((Kp.alloc _ _ _).trans (Kp.alloc _ _ _))
 have zW:W.heap.size=w.heap.size+3:=by rw[hW];simp
 have a0:W.cell? ⟨w.heap.size,0,none⟩=some (.pointer none):=by rw[hW];simp[go_sem]
 have a1:W.cell? ⟨w.heap.size+1,0,none⟩=some (.int .i64 0):=by rw[hW];simp[go_sem]
 have a2:W.cell? ⟨w.heap.size+1+1,0,none⟩=some (.int .i64 0):=by rw[hW];simp[go_sem]
 have f0:W.frozen? ⟨w.heap.size,0,none⟩=false:=by rw[hW];simp[go_sem]
 have f1:W.frozen? ⟨w.heap.size+1,0,none⟩=false:=by rw[hW];simp[go_sem]
 have f2:W.frozen? ⟨w.heap.size+1+1,0,none⟩=false:=by rw[hW];simp[go_sem]
 rw[<-hW];clear hW;refine(h W ((kW.cell (p:=⟨a,0,none⟩) (World.block_lt_of_cell? _ _ ha) (by simp)).trans ha)).mono ?_;rintro e w1 ⟨rfl,k1⟩;have b0:=(k1.cell (p:=⟨w.heap.size,0,none⟩) (by simp;omega) (by simp)).trans a0;have b1:=(k1.cell (p:=⟨w.heap.size+1,0,none⟩) (by simp;omega) (by simp)).trans a1;have b2:=(k1.cell (p:=⟨w.heap.size+1+1,0,none⟩) (by simp;omega) (by simp)).trans a2;have g0:=(k1.frozen (p:=⟨w.heap.size,0,none⟩) (by simp;omega) (by simp)).trans f0;have g1:=(k1.frozen (p:=⟨w.heap.size+1,0,none⟩) (by simp;omega) (by simp)).trans f1;have g2:=(k1.frozen (p:=⟨w.heap.size+1+1,0,none⟩) (by simp;omega) (by simp)).trans f2;clear a0 a1 a2 f0 f1 f2;go_wp2_with fail;refine leaves_cons (f:=49) (args:=#[.pointer (some ⟨w.heap.size,0,none⟩),.pointer (some ⟨w.heap.size+1,0,none⟩),.pointer (some ⟨w.heap.size+1+1,0,none⟩)]) (by simp) (by simp[go_sem]) ?_;refine(tJ b0 b1 b2 g0 g1 g2 (by omega) (by omega) (by omega)).mono ?_
 rintro e u' w2 ⟨rfl,rfl,k2,d0,d1,d2⟩;have K2:=Kp.own (x:=w.heap.size) (Kp.own (x:=w.heap.size+1) (Kp.own (x:=w.heap.size+1+1) (S:=[w.heap.size+1,w.heap.size]) (((kW.trans k1).mono (by simp)).trans (k2.mono (by simp))) (by omega)) (by omega)) (by omega);simp[Leaves,settle,results,Tryz.results33,go_sem,d0,d1,d2];exact K2
def ReadF(src:ByteArray)(E k:Nat):Prop:=∀W:World,Calls Tryz.prog 35 #[.string src] W fun e w'=>e=iG E k/\Kp [] W w'
theorem Fi{src:ByteArray}(h:2000<src.size):ReadF src 1 0:=by
 intro W;go_enter Tryz.func35,Tryz.ntmps35
 go_wp2_with fail;exact⟨rfl,rfl,Kp.refl _ _⟩
section
variable {w0 w w' w2:World}{mb sb db lo hi:Nat}{s s':Mst}{σ:Sst}
theorem qI(p:Addr)(w:World):CallsD Tryz.prog 81 #[.pointer (some p)] .returning w fun e u' w'=>e=.returned (.tuple #[])/\u'=.returning/\w'=w:=by
 refine callsD_of_wpS Tryz.func81 rfl fun c₀ cs hu=>?_;apply wpS_seq;apply wpS_region;simp[wpOpsS,go_sem,recoverD,hu,Tryz.ntmps81,Exit.thenS];refine wpS_of_wp ?_;go_wp2
 cases c₀
 simp_all [bodyPostS,results,Tryz.results81]
end
section
variable {w0 w w' w2:World}{mb sb db lo hi:Nat}{s s':Mst}{σ:Sst}
theorem iC{base:Nat}{v:Value}{l:List UInt8}(h:w.ownsRow base 5 1 v l.length (Lib.byteCells l)):(convert 49 9 v).run Tryz.prog w=.ok (.string (ba l)) w:=by
 rcases h.2 with⟨rfl,q⟩|⟨g,cap,cur,rfl,q2,q3,q4,q5⟩
 .have:l=[]:=Rb q;subst this;exact run_convert_bytes_nil w 49 5 Tryz.underlying49 Tryz.underlying5 0 0 9 Tryz.underlying9
 .refine run_convert_bytes_back w 49 9 5 ⟨g,0,none⟩ cap l Tryz.underlying49 Tryz.underlying5 Tryz.underlying9 (fun j hj=>?_);rw[Addr.add_mid,QH,h.cellAt j (by omega)];simp[Lib.byteCells,hj]
theorem JE(mb db:Nat)(r:Mrw):maB mb db { r with vo:=.slice none 0 0,out:=[]}=fun j=>if j=2 then none else maB mb db r j:=by
 funext i
 rcases i with _|_|_|_|_|_|i<;>simp[maB,Value.ownBlock]
theorem Mac.noOut(h:Mac w0 w mb sb db s):di w0 mb sb db w s (w.setCell ⟨mb,5,none⟩ (.slice none 0 0)) { s.p with out:=[]}:=by
 have k:Kp [mb] w (w.setCell ⟨mb,5,none⟩ (.slice none 0 0)):=Kp.setCell _ _ (by simp)
 have r:=h.r.aj k (fun x hx=>by
  simp at hx;subst hx
  exact⟨h.r.bk.lo 0 x rfl,fun i hi=>h.JD i hi⟩)
 refine⟨{ s with r:={ s.r with vo:=.slice none 0 0,out:=[]}},rfl,⟨h.b.set 5 _ (by show 5<20;omega),⟨r.kp,World.ownsRow_nil _ _ _ _,r.o3,r.ofl,r.o4,r.o5,r.md,?_,r.fll⟩⟩,⟨k.size,fun i p hp=>?_,fun p hp hn=>k.block p hp (fun e=>by simp at e;exact hn 0 (by rw[e];rfl))⟩⟩
 .show Bk.ok _ _ (maB mb db { s.r with vo:=.slice none 0 0,out:=[]});rw[JE];refine⟨fun i p hp=>?_,fun i p hp=>?_,fun i j p hi hj=>?_⟩
  .split at hp
   .cases hp
   .exact r.bk.lo i p hp
  .split at hp
   .cases hp
   .exact r.bk.hi i p hp
  .split at hi<;>split at hj
   .omega
   .cases hi
   .cases hj
   .exact r.bk.ne i j p hi hj
 .replace hp:maB mb db { s.r with vo:=.slice none 0 0,out:=[]} i=some p:=hp;rw[JE] at hp;replace hp:(if i=2 then none else maB mb db s.r i)=some p:=hp;split at hp
  .cases hp
  .exact .inl ⟨i,hp⟩
theorem Ht(h:Mac w0 w mb sb db s):Calls Tryz.prog 85 #[.pointer (some ⟨mb,5,none⟩)] w fun r w'=>r=.returned (.string (ba s.r.out))/\di w0 mb sb db w s w' { s.p with out:=[]}:=by
 have c5:=h.b.at_ 5 _ rfl;have f5:=h.b.free 5;have hcv:=iC h.r.o2;have H:=hid h.noOut;go_enter Tryz.func85,Tryz.ntmps85
 go_wp2_with fail;go_ret;exact⟨rfl,H.out⟩
abbrev fQ(o:List UInt8)(ov:Bool)(er st:Nat):List Value:=[.string (ba o),.bool ov,.int .i64 er,.int .i64 st]
theorem Tryz.fo:(Tryz.prog.info? 31).map (·.size)=some 4:=by kernel_rfl
def Pst.il(p:Pst):Pst:={ p with out:=[],left:=if p.over then ⟨#[]⟩ else p.left}
end
