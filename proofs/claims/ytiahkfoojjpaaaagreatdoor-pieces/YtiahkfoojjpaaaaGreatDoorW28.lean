/- What the claim needs of: HB. -/
import Derived.Test.YtiahkfoojjpaaaaGreatDoorW25
set_option maxRecDepth 100000
set_option maxHeartbeats 16000000
set_option linter.unusedVariables false
set_option linter.unusedSimpArgs false
namespace Go.Proofs.YtiahkfoojjpaaaaGreatDoor
open Go.RowKit
theorem qk {P:Program} {w:World} {t k e:TypeId} {b c:Nat} {es:Array MapEntry} {x:Int} {z:Value} (ht:P.underlying t=some (.map k e)) (hk:P.underlying k=some (.int .u8)) (hz:(zeroValue e).run P w=.ok z w) (hb:w.heap[b]? = some (.map es c)) (hf:Instr.findNow (.int .u8) (.int .u8 x) es.toList 0=some none) :
  (Instr.lookup t (.map (some b)) (.int .u8 x) true).run P w=.ok (.tuple #[z,.bool false]) w:=by
 have hkey:MapKept.IsKey (.int .u8) (.int .u8 x):=by simp [MapKept.IsKey]
 simp [Instr.lookup,run_underlying ht,MapKept.run_getObj_map hb,MapKept.run_checkKey hk hkey,MapKept.run_findKey hk hf,Result.andThen,hz]
theorem En (w:World):(zeroValue 134).run Tryz.prog w=.ok .nilFunc w:=by simp [go_sem]
section
variable {w0 w w':World} {mb sb db lo hi:Nat} {s s':Mst} {σ:Sst}
theorem look_jump {x i f g cap goal:Nat} {nt b:Bool} {c:List Value} {p2:Pst} (h:Mac w0 w mb sb db s) (hs:Scr lo hi w0 sb 0 σ) (hc:σ.cs[s.pc]? = some c) (hv:σ.vc=.slice (some ⟨g,0,none⟩) σ.cs.length cap) (hx:c[3]? = some (.int .u8 x)) (hnt:c[2]? = some (.bool nt))
  (ht:Instr.findNow (.int .u8) (.int .u8 x) (tabE 0 im) 0=some (some (i,.func (.func f) #[] #[]))) (hst:s.steps < 2000) (hpc:s.pc < 2000)
  (hA:∀ w1 s1,Mac w0 w1 mb sb db s1->s1.p=({ s.p with pc:=s.pc+1,steps:=s.steps+1 }:Pst)->Calls Tryz.prog 129 #[.pointer (some ⟨mb,0,none⟩),.pointer (some ⟨g,s.pc * 23,none⟩)] w1 fun r w'=>r=.returned (.bool b)/\aZ w0 mb sb db w1 s1 w' p2)
  (hb:b=nt) (hx123:x=123) (h5:c[5]? = some (.int .i64 goal)) :
  Calls Tryz.prog 83 #[.pointer (some ⟨mb,0,none⟩)] w fun r w'=>r=.returned (.tuple #[])/\aZ w0 mb sb db w s w' (p2.goto goal):=by
 have HX123:=hid hx123;clear hx123;have hsw:=hs.aj h.r.kp (fun _ e=>by cases e);obtain ⟨g',cap',e,hcell⟩:=hsw.cmd hc;obtain rfl:g'=g:=by rw [hv] at e;injection e with e _ _;injection e with e;injection e with e;exact e.symm
 have hlt:=(List.getElem?_eq_some_iff.1 hc).1;have c1:=hsw.c1;rw [hv] at c1;have c0:=h.b.at_ 0 _ rfl;have c13:=h.b.at_ 13 _ rfl;have hne:((s.pc:Int) == (σ.cs.length:Int))=false:=by rw [Nr];omega
 have HA:=hid hA;have HS:=hid hs;have HC:=hid hcell;clear hA hs hcell e;go_enter Tryz.func83,Tryz.ntmps83
 go_wp2_with fail;go_quiet (fail);have ha:=h.aj (Kp.drewN [] w nq);have ga:Gr mb db w s.r (w.drewN nq) s.r:=Gr.de (Kp.drewN [] w nq) (fun _ e=>by cases e);have hca:∀ j u,c[j]? = some u->(w.drewN nq).cell? ⟨g',s.pc * 23+j,none⟩=some u:=HC.out;have c1a:(w.drewN nq).cell? ⟨sb,0+1,none⟩=some (.slice (some ⟨g',0,none⟩) σ.cs.length cap):=c1;clear c0 c1 c13 hsw HC;obtain ⟨wa,hwa⟩:∃ wa,wa=w.drewN nq:=⟨_,rfl⟩;rw [<-hwa] at ha ga hca c1a ⊢;clear hwa;have HCA:=hid hca;clear hca;have c0:=ha.b.at_ 0 _ rfl;have c13:=ha.b.at_ 13 _ rfl;have f13:=ha.b.free 13;go_wp2_with fail;go_quiet (fail);obtain ⟨wb,hwb⟩:∃ wb,wb=wa.drewN nq:=⟨_,rfl⟩;have hb':=ha.aj (Kp.drewN [] wa nq);have gb:=ga.trans (Gr.de (r:=s.r) (Kp.drewN [] wa nq) (fun _ e=>by cases e));have hcb:∀ j u,c[j]? = some u->(wa.drewN nq).cell? ⟨g',s.pc * 23+j,none⟩=some u:=HCA.out;rw [<-hwb] at hb' gb hcb ⊢;clear hwb c0 c13 f13 c1a HCA ha ga h;have c13:=hb'.b.at_ 13 _ rfl
 have f13:=hb'.b.free 13;have HCB:=hid hcb;clear hcb;obtain ⟨n1,hn1⟩:∃ n1:Nat,n1=s.pc+1:=⟨_,rfl⟩;have wr:=aO s.pc n1 hn1 (by omega);have m1:=hb'.set (s':={ s with pc:=n1 }) 13 (.int .i64 (n1:Int)) (by omega) rfl rfl;have g1:=gb.trans (Gr.set (mb:=mb) (db:=db) wb s.r 13 (.int .i64 (n1:Int)));have hc1:∀ j u,c[j]? = some u->(wb.setCell ⟨mb,13,none⟩ (.int .i64 (n1:Int))).cell? ⟨g',s.pc * 23+j,none⟩=some u:=((HS.out.aj m1.r.kp (fun _ e=>by cases e)).cmd hc).elim fun g2 q=>q.elim fun cap2 q=>by
  obtain ⟨e,q⟩:=q;obtain rfl:g2=g':=by rw [hv] at e;injection e with e _ _;injection e with e;injection e with e;exact e.symm
  exact q
 have HN1:=hid hn1;have M1:=hid m1;have G1:=hid g1;have HC1:=hid hc1;clear hn1 m1 g1 hc1 gb hb';go_wp2_with fail;obtain ⟨w1,hw1⟩:∃ w1,w1=wb.setCell ⟨mb,13,none⟩ (.int .i64 (n1:Int)):=⟨_,rfl⟩;rw [<-hw1] at M1 G1 HC1 ⊢;clear hw1 c13 f13 HCB wr;have e1:=M1.out.b.at_ 1 _ rfl;have k3:=HC1.out 3 _ hx;have hlk:∀ m,(Instr.lookup 95 (.map (some db)) (.int .u8 x) true).run Tryz.prog (w1.drewN m)=.ok (.tuple #[.func (.func f) #[] #[],.bool true]) (w1.drewN m):=fun m=>
  gD Tryz.underlying95 Tryz.underlying5 (((Kp.drewN [] w1 m).block _ (M1.out.r.bk.hi 1 _ rfl) (by simp)).trans M1.out.r.md) ht
 go_quiet (fail);have m2:=M1.out.aj (Kp.drewN [] w1 nq);have g2:=G1.out.trans (Gr.de (r:=s.r) (Kp.drewN [] w1 nq) (fun _ e=>by cases e));have h2:∀ j u,c[j]? = some u->(w1.drewN nq).cell? ⟨g',s.pc * 23+j,none⟩=some u:=HC1.out;obtain ⟨wd,hwd⟩:∃ wd,wd=w1.drewN nq:=⟨_,rfl⟩;rw [<-hwd] at m2 g2 h2 ⊢;clear hwd M1 G1 HC1 e1 k3 hlk;have c14:=m2.b.at_ 14 _ rfl;have f14:=m2.b.free 14;obtain ⟨n2,hn2⟩:∃ n2:Nat,n2=s.steps+1:=⟨_,rfl⟩;have wr:=aO s.steps n2 hn2 (by omega);have q2:¬ 2000 < n2:=by omega
 have m3:=m2.set (s':={ s with pc:=n1,steps:=n2 }) 14 (.int .i64 (n2:Int)) (by omega) rfl rfl;have g3:=g2.trans (Gr.set (mb:=mb) (db:=db) wd s.r 14 (.int .i64 (n2:Int)));have hsc:=HS.out.aj m3.r.kp (fun _ e=>by cases e);have key:∀ wx,Kp [] w0 wx->∀ j u,c[j]? = some u->wx.cell? ⟨g',s.pc * 23+j,none⟩=some u:=fun wx kx=>((HS.out.aj kx (fun _ e=>by cases e)).cmd hc).elim fun g2 q=>q.elim fun cap2 q=>by
  obtain ⟨e,q⟩:=q;obtain rfl:g2=g':=by rw [hv] at e;injection e with e _ _;injection e with e;injection e with e;exact e.symm
  exact q
 have KEY:=hid key;have M3:=hid m3;have G3:=hid g3;have HN2:=hid hn2;clear key hsc m2 g2 h2 hn2;go_wp2_with fail;obtain ⟨w3,hw3⟩:∃ w3,w3=wd.setCell ⟨mb,14,none⟩ (.int .i64 (n2:Int)):=⟨_,rfl⟩;rw [<-hw3] at M3 G3 ⊢;clear hw3 c14 f14 m3 g3 wr;have HAA:=hid (HA.out (w3.drew) { s with pc:=n1,steps:=n2 } (M3.out.aj (Kp.drew [] w3)) (by rw [HN1.out,HN2.out];rfl));have k2:=KEY.out _ M3.out.r.kp 2 _ hnt;go_cut [66] from 67 (fun v wx=>v=.bool false/\∃ s4,s4.p=p2/\Mac w0 wx mb sb db s4/\Gr mb db w s.r wx s4.r)
 case first=>
  go_region_with (go_at_call 129;refine HAA.out.mono ?_;rintro r w4 ⟨rfl,s4,e4,m4,g4⟩;have k2':=KEY.out _ m4.r.kp 2 _ hnt)
  all_goals
   go_wp2_with fail;go_meet
   case rel=>exact ⟨by first | rfl | (rw [hb];cases nt <;> rfl),s4,e4,m4,G3.out.trans ((Gr.de (r:=s.r) (Kp.drew [] w3) (fun _ e=>by cases e)).trans g4)⟩
 case rest=>
 obtain ⟨rfl,s4,e4,m4,g4⟩:=hcut;have k3:=KEY.out _ m4.r.kp 3 _ hx;have k5:=KEY.out _ m4.r.kp 5 _ h5;have c13:=m4.b.at_ 13 _ rfl;have f13:=m4.b.free 13;have q3:((x:Int) == 123)=true:=by rw [HX123.out];rfl
 have m5:=m4.set (s':={ s4 with pc:=goal }) 13 (.int .i64 goal) (by omega) rfl rfl;have g5:=g4.trans (Gr.set (mb:=mb) (db:=db) _ s4.r 13 (.int .i64 (goal:Int)));have G5:=hid (And.intro m5 g5);clear m5 g5;go_wp2_with fail;go_end0;exact ⟨rfl,{ s4 with pc:=goal },by show s4.p.goto goal=_;rw [e4],G5.out.1,G5.out.2⟩
theorem Dx {x g cap:Nat} {c:List Value} (h:Mac w0 w mb sb db s) (hs:Scr lo hi w0 sb 0 σ) (hc:σ.cs[s.pc]? = some c) (hv:σ.vc=.slice (some ⟨g,0,none⟩) σ.cs.length cap) (hx:c[3]? = some (.int .u8 x))
  (ht:Instr.findNow (.int .u8) (.int .u8 x) (tabE 0 im) 0=some none) (hpc:s.pc < 2000) :
  Calls Tryz.prog 83 #[.pointer (some ⟨mb,0,none⟩)] w fun r w'=>r=.returned (.tuple #[])/\aZ w0 mb sb db w s w' (s.p.goto (s.pc+1)):=by
 have hsw:=hs.aj h.r.kp (fun _ e=>by cases e);obtain ⟨g',cap',e,hcell⟩:=hsw.cmd hc;obtain rfl:g'=g:=by rw [hv] at e;injection e with e _ _;injection e with e;injection e with e;exact e.symm
 have hlt:=(List.getElem?_eq_some_iff.1 hc).1;have c1:=hsw.c1;rw [hv] at c1;have c0:=h.b.at_ 0 _ rfl;have c13:=h.b.at_ 13 _ rfl;have hne:((s.pc:Int) == (σ.cs.length:Int))=false:=by rw [Nr];omega
 have HS:=hid hs;have HC:=hid hcell;clear hs hcell e;go_enter Tryz.func83,Tryz.ntmps83
 go_wp2_with fail;go_quiet (fail);have ha:=h.aj (Kp.drewN [] w nq);have ga:Gr mb db w s.r (w.drewN nq) s.r:=Gr.de (Kp.drewN [] w nq) (fun _ e=>by cases e);have hca:∀ j u,c[j]? = some u->(w.drewN nq).cell? ⟨g',s.pc * 23+j,none⟩=some u:=HC.out;have c1a:(w.drewN nq).cell? ⟨sb,0+1,none⟩=some (.slice (some ⟨g',0,none⟩) σ.cs.length cap):=c1;clear c0 c1 c13 hsw HC;obtain ⟨wa,hwa⟩:∃ wa,wa=w.drewN nq:=⟨_,rfl⟩;rw [<-hwa] at ha ga hca c1a ⊢;clear hwa;have HCA:=hid hca;clear hca;have c0:=ha.b.at_ 0 _ rfl;have c13:=ha.b.at_ 13 _ rfl;have f13:=ha.b.free 13;go_wp2_with fail;go_quiet (fail);obtain ⟨wb,hwb⟩:∃ wb,wb=wa.drewN nq:=⟨_,rfl⟩;have hb':=ha.aj (Kp.drewN [] wa nq);have gb:=ga.trans (Gr.de (r:=s.r) (Kp.drewN [] wa nq) (fun _ e=>by cases e));have hcb:∀ j u,c[j]? = some u->(wa.drewN nq).cell? ⟨g',s.pc * 23+j,none⟩=some u:=HCA.out;rw [<-hwb] at hb' gb hcb ⊢;clear hwb c0 c13 f13 c1a HCA ha ga h;have c13:=hb'.b.at_ 13 _ rfl
 have f13:=hb'.b.free 13;have HCB:=hid hcb;clear hcb;obtain ⟨n1,hn1⟩:∃ n1:Nat,n1=s.pc+1:=⟨_,rfl⟩;have wr:=aO s.pc n1 hn1 (by omega);have m1:=hb'.set (s':={ s with pc:=n1 }) 13 (.int .i64 (n1:Int)) (by omega) rfl rfl;have g1:=gb.trans (Gr.set (mb:=mb) (db:=db) wb s.r 13 (.int .i64 (n1:Int)));have hc1:∀ j u,c[j]? = some u->(wb.setCell ⟨mb,13,none⟩ (.int .i64 (n1:Int))).cell? ⟨g',s.pc * 23+j,none⟩=some u:=((HS.out.aj m1.r.kp (fun _ e=>by cases e)).cmd hc).elim fun g2 q=>q.elim fun cap2 q=>by
  obtain ⟨e,q⟩:=q;obtain rfl:g2=g':=by rw [hv] at e;injection e with e _ _;injection e with e;injection e with e;exact e.symm
  exact q
 have HN1:=hid hn1;have M1:=hid m1;have G1:=hid g1;have HC1:=hid hc1;clear hn1 m1 g1 hc1 gb hb';go_wp2_with fail;obtain ⟨w1,hw1⟩:∃ w1,w1=wb.setCell ⟨mb,13,none⟩ (.int .i64 (n1:Int)):=⟨_,rfl⟩;rw [<-hw1] at M1 G1 HC1 ⊢;clear hw1 c13 f13 HCB wr;have e1:=M1.out.b.at_ 1 _ rfl;have k3:=HC1.out 3 _ hx;have hlk:∀ m,(Instr.lookup 95 (.map (some db)) (.int .u8 x) true).run Tryz.prog (w1.drewN m)=.ok (.tuple #[.nilFunc,.bool false]) (w1.drewN m):=fun m=>
  qk Tryz.underlying95 Tryz.underlying5 (En _) (((Kp.drewN [] w1 m).block _ (M1.out.r.bk.hi 1 _ rfl) (by simp)).trans M1.out.r.md) ht
 go_quiet (fail);have m2:=M1.out.aj (Kp.drewN [] w1 nq);have g2:=G1.out.trans (Gr.de (r:=s.r) (Kp.drewN [] w1 nq) (fun _ e=>by cases e));have G2:Hid (aZ w0 mb sb db w s (w1.drewN nq) (s.p.goto (s.pc+1))):=hid ⟨{ s with pc:=n1 },by rw [HN1.out];rfl,m2,g2⟩;go_wp2_with fail;refine bodyPost_ret (results_none rfl _ _ _) rfl ?_;exact ⟨rfl,G2.out⟩
end
end Go.Proofs.YtiahkfoojjpaaaaGreatDoor
