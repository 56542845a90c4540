import Derived.Test.YtiahkfoojjpaaaaGreatDoorU41
set_option maxRecDepth 100000
set_option maxHeartbeats 16000000
set_option linter.all false
namespace Go.Proofs.YtiahkfoojjpaaaaGreatDoor
open Go.RowKit
structure Nc (σ:Sst) (S:eF):Prop where
 qt:σ.quiet=S.quiet
 len:σ.cs.length=S.aG.length
 cs:∀ (i:Nat) (cv:List Value) (c:aV),σ.cs[i]? = some cv->S.aG[i]? = some c->pL σ.fs cv c
 ns:σ.ns=S.names
 rg:σ.ranges=S.ranges
def Jz (w w':World) (b o:Nat) (S:eF):Prop:=∃ σ,Nc σ S/\Scr w.heap.size w'.heap.size w' b o σ/\Kp [] w w'
def ReadO (w:World):Except qX eF->Ending->World->Prop
 | .error (E,k),e,w'=>e=gE E k/\Kp [] w w'
 | .ok S,e,w'=>∃ b,e=.returned (.pointer (some ⟨b,3,none⟩))/\Jz w w' b 3 S
def Cr (src:ByteArray) (S:eF):Prop:=∀ W:World,Nm W->Calls Tryz.prog 35 #[.string src] W fun e w'=>∃ b,e=.returned (.pointer (some ⟨b,3,none⟩))/\Jz W w' b 3 S
def Jn (src:ByteArray) (E k:Nat):Prop:=∀ W:World,Nm W->Calls Tryz.prog 35 #[.string src] W fun e w'=>e=gE E k/\Kp [] W w'
theorem scrE_is {s:ByteArray} (h:¬ 2000 < s.size):scrE s=(match endE s (cmdsE s (s.size+1) 0 rd0) with
  | .error q=>.error q
  | .ok r=>.ok ⟨qtB s,r.aG,r.names,r.ranges⟩):=by
 unfold scrE;rw [Nr h]
 cases cmdsE s (s.size+1) 0 rd0 with
 | error q=>rfl
 | ok r=>
  dsimp only [endE];by_cases hb:r.blocks≠[]
  .rw [Ny hb,Ny hb]
  .rw [Nr hb,Nr hb]
   cases goalsE r.wanted r <;> rfl
theorem ME (src:ByteArray) {w:World} (hw:Nm w):Calls Tryz.prog 35 #[.string src] w (ReadO w (scrE src)):=by
 by_cases hsz:2000 < src.size
 .have e:scrE src=.error (1,0):=by unfold scrE;rw [Ny hsz]
  rw [e];exact CZ hsz w
 .have HSC:=hid (scrE_is hsz);have HW:=hid hw;clear hw;go_enter Tryz.func35,Tryz.ntmps35
  go_wp2_with fail;refine (zX src w (by omega)).mono ?_;rintro q w1 ⟨rfl,k1⟩;go_wp2_with fail;refine (uV w1).mono ?_;rintro q w2 ⟨rfl,ht,k2⟩;have hz2:((w2.alloc (.map #[] 0)).alloc (.map #[] 0)).heap.size=w2.heap.size+1+1:=by simp
  have s5:=JQ (by omega) k1 k2 ht (Bl.alloc ((w2.alloc (.map #[] 0)).alloc (.map #[] 0)) (rdV src w1.heap.size w2.heap.size (w2.heap.size+1)) 127) (Kp.alloc _ _ _);rw [hz2] at s5;have WT:=hid (whole_t s5 HW.out ⟨rfl,fun i cv c h=>(by cases h),⟨rfl,rfl⟩,rfl,rfl,rfl,rfl⟩);clear s5;go_wp2_with (refine fV rfl 124 rfl ?_)
  refine WT.out.mono ?_;intro q w6 hq
  cases hE:endE src (cmdsE src (src.size+1) 0 rd0) with
  | error p=>
   obtain ⟨E,pl⟩:=p;rw [hE] at hq HSC;obtain ⟨rfl,k6⟩:=hq;have K6:=hid k6;clear k6 hE WT;go_wp2_with fail;refine ⟨rfl,?_⟩;rw [HSC.out];exact ⟨rfl,K6.out⟩
  | ok r=>
   rw [hE] at hq HSC;obtain ⟨rfl,hq⟩:=hq;have HQ:=hid hq;clear hq hE WT;go_wp2_with fail;go_ret;obtain ⟨σ',s6,r6,q6⟩:=HQ.out;rw [HSC.out];exact ⟨_,rfl,σ',⟨q6,r6.len,r6.cs,r6.nm.ns,r6.rg⟩,s6.scr,s6.r.kp⟩
theorem CW {src:ByteArray} {S:eF} {w:World} {a:Nat} (hw:Nm w) (ha:w.cell? ⟨a,0,none⟩=some (.string src)) (h:Cr src S) :
  Calls Tryz.prog 34 #[.pointer (some ⟨a,0,none⟩)] w fun e w'=>∃ b,e=.returned (.pointer (some ⟨b,3,none⟩))/\Jz w w' b 3 S:=by
 have H:=hid (h w hw);clear h;go_enter Tryz.func34,Tryz.ntmps34
 go_wp2_with fail;refine H.out.mono ?_;rintro e w1 ⟨b,rfl,σ,hT,s1,k1⟩;go_wp2_with fail;go_ret;exact ⟨b,rfl,σ,hT,s1,k1⟩
theorem Gg {s:ByteArray} {k E pl:Nat} (h:iD s k=.error (E,pl)):E≠0:=by
 unfold iD at h;split at h
 .cases h;simp
 .split at h
  .cases h;simp
  .split at h
   .cases h;simp
   .split at h
    .cases h;simp
    .cases h
section
variable {s:ByteArray} {E pl:Nat}
theorem Bm {k:Nat} (h:patE s k=.error (E,pl)):E≠0:=by
 unfold patE at h;split at h
 .split at h
  .cases h;simp
  .split at h
   .rename_i q hq
    cases h;exact Gg hq
   .cases h
 .cases h;simp
theorem Co {k:Nat} (h:adrE s k=.error (E,pl)):E≠0:=by
 unfold adrE at h;split at h
 .split at h
  .cases h;simp
  .cases h
 .split at h
  .cases h
  .split at h
   .rename_i q hq
    cases h;exact Bm hq
   .cases h
theorem Je {k:Nat} (h:adrsE s k=.error (E,pl)):E≠0:=by
 unfold adrsE at h;split at h
 .split at h
  .rename_i q hq
   cases h;exact Co hq
  .split at h
   .split at h
    .rename_i q hq
     cases h;exact Co hq
    .cases h
   .cases h
 .cases h
theorem xz {k:Nat} {r:RdS} {c:aV} (h:fileE s k r c=.error (E,pl)):E≠0:=by
 unfold fileE at h;split at h
 .cases h;simp
 .split at h <;> cases h
theorem iy:∀ {n k:Nat} {r:RdS} {c:aV},flagsE s n k r c=.error (E,pl)->E≠0
 | 0,_,_,_,h=>by cases h;simp
 | n+1,k,r,c,h=>by
  unfold flagsE at h;split at h
  .exact iy h
  .split at h
   .exact iy h
   .split at h
    .split at h
     .cases h;simp
     .exact iy h
    .split at h
     .exact xz h
     .cases h
theorem Gz {k:Nat} {r:RdS} {c:aV} (h:operE s k r c=.error (E,pl)):E≠0:=by
 unfold operE at h;split at h
 .split at h
  .cases h;simp
  .cases h
 .split at h
  .split at h
   .cases h;simp
   .cases h
  .split at h
   .split at h
    .cases h;simp
    .split at h
     .cases h;simp
     .cases h
   .split at h
    .split at h
     .split at h
      .cases h;simp
      .cases h
     .cases h
    .split at h
     .split at h
      .cases h;simp
      .cases h
     .split at h
      .split at h
       .rename_i q hq
        cases h;exact Bm hq
       .split at h
        .cases h;simp
        .exact iy h
      .split at h
       .split at h
        .split at h
         .cases h;simp
         .split at h
          .cases h;simp
          .cases h
        .cases h;simp
       .split at h
        .split at h
         .cases h;simp
         .cases h
        .split at h
         .exact xz h
         .cases h
theorem LQ {k:Nat} {r:RdS} (h:cmdE s k r=.error (E,pl)):E≠0:=by
 unfold cmdE at h;split at h
 .rename_i q hq
  cases h;exact Je hq
 .rename_i k1 L hL;dsimp only at h;generalize saw s (blk s k1) 33=nt at h;generalize (if nt=true then blk s (blk s k1+1) else blk s k1)=k3 at h;generalize (if L.length=2 then { r with ranges:=r.ranges+1 } else r)=r1 at h;generalize (if L.length=2 then r.ranges else 0)=rn at h;split at h
  .split at h
   .cases h;simp
   .split at h
    .cases h;simp
    .split at h
     .rename_i q hq
      cases h;exact Gz hq
     .split at h
      .cases h
      .split at h
       .cases h
       .cases h;simp
  .cases h;simp
theorem xQ:∀ {n k:Nat} {r:RdS},cmdsE s n k r=.error (E,pl)->E≠0
 | 0,_,_,h=>by cases h;simp
 | n+1,k,r,h=>by
  unfold cmdsE at h;split at h
  .split at h
   .rename_i q hq
    cases h;exact LQ hq
   .exact xQ h
  .cases h
theorem lh:∀ {l:List (Nat×Nat)} {r:RdS},goalsE l r=.error (E,pl)->E≠0
 | [],_,h=>by cases h
 | (i,p)::l,r,h=>by
  unfold goalsE at h;split at h
  .cases h;simp
  .split at h
   .exact lh h
   .split at h
    .cases h;simp
    .exact lh h
theorem AX (h:scrE s=.error (E,pl)):E≠0:=by
 unfold scrE at h;split at h
 .cases h;simp
 .split at h
  .rename_i q hq
   cases h;exact xQ hq
  .split at h
   .cases h;simp
   .split at h
    .rename_i q hq
     cases h;exact lh hq
    .cases h
end
theorem IP {src:ByteArray} {S:eF} {w:World} {a:Nat} (hw:Nm w) (ha:w.cell? ⟨a,0,none⟩=some (.string src)) (h:Cr src S) :
  Calls Tryz.prog 33 #[.func (.func 34) #[] #[.pointer (some ⟨a,0,none⟩)]] w fun e w'=>∃ b,e=.returned (.tuple #[.pointer (some ⟨b,3,none⟩),.int .i64 0,.int .i64 0])/\Jz w w' b 3 S:=by
 have hmf:∀ (fn:Fn) (first cap:Array Value) (w:World),(Instr.makeFunc fn first cap).run Tryz.prog w=.ok (.func fn first cap) w:=fun _ _ _ _=>rfl;go_enter_defers Tryz.func33,Tryz.ntmps33
 go_wp2_with fail;obtain ⟨W,hW⟩:∃ W:World,W=((w.alloc (.cells #[.pointer none] 53)).alloc (.cells #[.int .i64 0] 24)).alloc (.cells #[.int .i64 0] 3):=⟨_,rfl⟩;have kW:Kp [] w W:=by rw [hW];exact (Kp.alloc _ _ _).trans ((Kp.alloc _ _ _).trans (Kp.alloc _ _ _))
 have zW:W.heap.size=w.heap.size+3:=by rw [hW];simp
 have a0:W.cell? ⟨w.heap.size,0,none⟩=some (.pointer none):=by rw [hW];simp [go_sem]
 have a1:W.cell? ⟨w.heap.size+1,0,none⟩=some (.int .i64 0):=by rw [hW];simp [go_sem]
 have a2:W.cell? ⟨w.heap.size+1+1,0,none⟩=some (.int .i64 0):=by rw [hW];simp [go_sem]
 have f0:W.frozen? ⟨w.heap.size,0,none⟩=false:=by rw [hW];simp [go_sem]
 have f1:W.frozen? ⟨w.heap.size+1,0,none⟩=false:=by rw [hW];simp [go_sem]
 have f2:W.frozen? ⟨w.heap.size+1+1,0,none⟩=false:=by rw [hW];simp [go_sem]
 rw [<-hW];clear hW;refine (CW (hw.aj kW (by simp)) ((kW.cell (p:=⟨a,0,none⟩) (World.block_lt_of_cell? _ _ ha) (by simp)).trans ha) h).mono ?_;rintro e w1 ⟨p,rfl,σ,hT,sc,k1⟩;have b0:=(k1.cell (p:=⟨w.heap.size,0,none⟩) (by simp;omega) (by simp)).trans a0;have b1:=(k1.cell (p:=⟨w.heap.size+1,0,none⟩) (by simp;omega) (by simp)).trans a1;have b2:=(k1.cell (p:=⟨w.heap.size+1+1,0,none⟩) (by simp;omega) (by simp)).trans a2;have g0:=(k1.frozen (p:=⟨w.heap.size,0,none⟩) (by simp;omega) (by simp)).trans f0;have g1:=(k1.frozen (p:=⟨w.heap.size+1,0,none⟩) (by simp;omega) (by simp)).trans f1;have g2:=(k1.frozen (p:=⟨w.heap.size+1+1,0,none⟩) (by simp;omega) (by simp)).trans f2;clear a0 a1 a2 f0 f1 f2;go_wp2_with fail;refine leaves_cons (f:=49) (args:=#[.pointer (some ⟨w.heap.size,0,none⟩),.pointer (some ⟨w.heap.size+1,0,none⟩),.pointer (some ⟨w.heap.size+1+1,0,none⟩)]) (by simp) (by simp [go_sem]) ?_;refine (zY _ _ _ _).mono ?_
 rintro e u' w'' ⟨rfl,rfl,rfl⟩
 have K1:Kp [w.heap.size,w.heap.size+1,w.heap.size+1+1] w1 (((w1.setCell ⟨w.heap.size,0,none⟩ (.pointer (some ⟨p,3,none⟩))).setCell ⟨w.heap.size+1,0,none⟩ (.int .i64 0)).setCell ⟨w.heap.size+1+1,0,none⟩ (.int .i64 0)):=
  (Kp.setCell _ _ (by simp)).trans ((Kp.setCell _ _ (by simp)).trans (Kp.setCell _ _ (by simp)))
 have sc2:=sc.aj K1 (by intro x hx;simp at hx;omega);have K2:=Kp.own (x:=w.heap.size) (Kp.own (x:=w.heap.size+1) (Kp.own (x:=w.heap.size+1+1) (S:=[w.heap.size+1,w.heap.size]) (((kW.trans k1).mono (by simp)).trans (K1.mono (by simp))) (by omega)) (by omega)) (by omega);simp [Leaves,settle,results,Tryz.results33,go_sem,b0,b1,b2];exact ⟨σ,hT,by simpa [World.setCell] using sc2.lower (by omega),K2⟩
theorem rM {src:ByteArray} {S:eF} {w:World} (hw:Nm w) (h:Cr src S) :
  Calls Tryz.prog 22 #[.string src] w fun e w'=>∃ b,e=.returned (.tuple #[.pointer (some ⟨b,3,none⟩),.int .i64 0,.int .i64 0])/\Jz w w' b 3 S:=by
 have hmf:∀ (fn:Fn) (first cap:Array Value) (w:World),(Instr.makeFunc fn first cap).run Tryz.prog w=.ok (.func fn first cap) w:=fun _ _ _ _=>rfl;have k0:=Kp.alloc [] w (.cells #[.string src] 9);go_enter Tryz.func22,Tryz.ntmps22
 go_wp2_with fail;refine (IP (a:=w.heap.size) (hw.aj k0 (by simp)) (by simp) h).mono ?_;rintro e w1 ⟨p,rfl,σ,hT,sc,k1⟩;go_wp2_with fail;go_ret3
 exact ⟨p,rfl,σ,hT,sc.lower k0.size,k0.trans k1⟩
theorem DL {src:ByteArray} {S:eF} {w:World} (hw:Nm w) (h:Cr src S) :
  Calls Tryz.prog 9 #[.string src] w fun e w'=>∃ b,e=.returned (.tuple #[.pointer (some ⟨b,0,none⟩),.int .i64 0,.int .i64 0])/\Jz w w' b 0 S:=by
 go_enter Tryz.func9,Tryz.ntmps9
 go_wp2_with fail;refine (rM hw h).mono ?_;rintro e w1 ⟨p,rfl,σ,hT,sc,k1⟩;have c0:=sc.c0;have c1:=sc.c1;have c2:=sc.c2;have c3:=sc.c3;go_wp2_with fail;go_ret3
 exact ⟨w1.heap.size,rfl,σ,hT,by simpa using sc.copy rfl,k1.trans (Kp.alloc _ _ _)⟩
theorem IQ {E k a:Nat} {src:ByteArray} {w:World} (hw:Nm w) (ha:w.cell? ⟨a,0,none⟩=some (.string src)) (h:∀ W:World,Nm W->W.cell? ⟨a,0,none⟩=some (.string src)->Calls Tryz.prog 34 #[.pointer (some ⟨a,0,none⟩)] W fun e w'=>e=gE E k/\Kp [] W w') :
  Calls Tryz.prog 33 #[.func (.func 34) #[] #[.pointer (some ⟨a,0,none⟩)]] w fun e w'=>e=.returned (.tuple #[.pointer none,.int .i64 (E:Int),.int .i64 (k:Int)])/\Kp [] w w':=by
 have hmf:∀ (fn:Fn) (first cap:Array Value) (w:World),(Instr.makeFunc fn first cap).run Tryz.prog w=.ok (.func fn first cap) w:=fun _ _ _ _=>rfl;go_enter_defers Tryz.func33,Tryz.ntmps33
 go_wp2_with fail;obtain ⟨W,hW⟩:∃ W:World,W=((w.alloc (.cells #[.pointer none] 53)).alloc (.cells #[.int .i64 0] 24)).alloc (.cells #[.int .i64 0] 3):=⟨_,rfl⟩;have kW:Kp [] w W:=by rw [hW];exact (Kp.alloc _ _ _).trans ((Kp.alloc _ _ _).trans (Kp.alloc _ _ _))
 have zW:W.heap.size=w.heap.size+3:=by rw [hW];simp
 have a0:W.cell? ⟨w.heap.size,0,none⟩=some (.pointer none):=by rw [hW];simp [go_sem]
 have a1:W.cell? ⟨w.heap.size+1,0,none⟩=some (.int .i64 0):=by rw [hW];simp [go_sem]
 have a2:W.cell? ⟨w.heap.size+1+1,0,none⟩=some (.int .i64 0):=by rw [hW];simp [go_sem]
 have f0:W.frozen? ⟨w.heap.size,0,none⟩=false:=by rw [hW];simp [go_sem]
 have f1:W.frozen? ⟨w.heap.size+1,0,none⟩=false:=by rw [hW];simp [go_sem]
 have f2:W.frozen? ⟨w.heap.size+1+1,0,none⟩=false:=by rw [hW];simp [go_sem]
 rw [<-hW];clear hW;refine (h W (hw.aj kW (by simp)) ((kW.cell (p:=⟨a,0,none⟩) (World.block_lt_of_cell? _ _ ha) (by simp)).trans ha)).mono ?_;rintro e w1 ⟨rfl,k1⟩;have b0:=(k1.cell (p:=⟨w.heap.size,0,none⟩) (by simp;omega) (by simp)).trans a0;have b1:=(k1.cell (p:=⟨w.heap.size+1,0,none⟩) (by simp;omega) (by simp)).trans a1;have b2:=(k1.cell (p:=⟨w.heap.size+1+1,0,none⟩) (by simp;omega) (by simp)).trans a2;have g0:=(k1.frozen (p:=⟨w.heap.size,0,none⟩) (by simp;omega) (by simp)).trans f0;have g1:=(k1.frozen (p:=⟨w.heap.size+1,0,none⟩) (by simp;omega) (by simp)).trans f1;have g2:=(k1.frozen (p:=⟨w.heap.size+1+1,0,none⟩) (by simp;omega) (by simp)).trans f2;clear a0 a1 a2 f0 f1 f2;go_wp2_with fail;refine leaves_cons (f:=49) (args:=#[.pointer (some ⟨w.heap.size,0,none⟩),.pointer (some ⟨w.heap.size+1,0,none⟩),.pointer (some ⟨w.heap.size+1+1,0,none⟩)]) (by simp) (by simp [go_sem]) ?_;refine (qJ b0 b1 b2 g0 g1 g2 (by omega) (by omega) (by omega)).mono ?_
 rintro e u' w2 ⟨rfl,rfl,k2,d0,d1,d2⟩;have K2:=Kp.own (x:=w.heap.size) (Kp.own (x:=w.heap.size+1) (Kp.own (x:=w.heap.size+1+1) (S:=[w.heap.size+1,w.heap.size]) (((kW.trans k1).mono (by simp)).trans (k2.mono (by simp))) (by omega)) (by omega)) (by omega);simp [Leaves,settle,results,Tryz.results33,go_sem,d0,d1,d2];exact K2
theorem CX {E k a:Nat} {src:ByteArray} (h:Jn src E k) (W:World) (hW:Nm W) (ha:W.cell? ⟨a,0,none⟩=some (.string src)):Calls Tryz.prog 34 #[.pointer (some ⟨a,0,none⟩)] W fun e w'=>e=gE E k/\Kp [] W w':=by
 have H:=hid (h W hW);clear h;go_enter Tryz.func34,Tryz.ntmps34
 go_wp2_with fail;refine H.out.mono ?_;rintro e w1 ⟨rfl,k1⟩;go_wp2_with fail;exact ⟨rfl,rfl,k1⟩
theorem rN {E k:Nat} {src:ByteArray} {w:World} (hw:Nm w) (h:Jn src E k):Calls Tryz.prog 22 #[.string src] w fun e w'=>e=.returned (.tuple #[.pointer none,.int .i64 (E:Int),.int .i64 (k:Int)])/\Kp [] w w':=by
 have hmf:∀ (fn:Fn) (first cap:Array Value) (w:World),(Instr.makeFunc fn first cap).run Tryz.prog w=.ok (.func fn first cap) w:=fun _ _ _ _=>rfl;have k0:=Kp.alloc [] w (.cells #[.string src] 9);go_enter Tryz.func22,Tryz.ntmps22
 go_wp2_with fail;refine (IQ (a:=w.heap.size) (src:=src) (hw.aj k0 (by simp)) (by simp) (CX h)).mono ?_;rintro e w1 ⟨rfl,k1⟩;go_wp2_with fail;go_ret3
 exact ⟨rfl,k0.trans k1⟩
theorem DM {E k:Nat} {src:ByteArray} {w:World} (hw:Nm w) (hE:E≠0) (h:Jn src E k):Calls Tryz.prog 9 #[.string src] w fun e w'=>e=.returned (.tuple #[.pointer none,.int .i64 (E:Int),.int .i64 (k:Int)])/\Kp [] w w':=by
 have hq:((E:Int) == 0)=false:=by rw [Nz];omega
 have HE:=hid hE;clear hE;go_enter Tryz.func9,Tryz.ntmps9
 go_wp2_with fail;refine (rN hw h).mono ?_;rintro e w1 ⟨rfl,k1⟩;go_wp2_with fail;go_ret3
 exact ⟨rfl,k1⟩
def CompO (w:World):Except qX eF->Ending->World->Prop
 | .error (E,k),e,w'=>e=.returned (.tuple #[.pointer none,.int .i64 (E:Int),.int .i64 (k:Int)])/\Kp [] w w'
 | .ok S,e,w'=>∃ b,e=.returned (.tuple #[.pointer (some ⟨b,0,none⟩),.int .i64 0,.int .i64 0])/\Jz w w' b 0 S
theorem xM (src:ByteArray) {w:World} (hw:Nm w):Calls Tryz.prog 9 #[.string src] w (CompO w (scrE src)):=by
 cases h:scrE src with
 | error q=>
  obtain ⟨E,k⟩:=q;refine (DM hw (AX h) (fun W hW=>?_)).mono fun e w' q=>q;have:=ME src hW;rw [h] at this;exact this
 | ok S=>
  refine (DL hw (fun W hW=>?_)).mono fun e w' q=>q;have:=ME src hW;rw [h] at this;exact this
theorem DV {p q r:Nat} {E k:Nat} {w:World} {v0 v1 v2:Value} (h0:w.cell? ⟨p,0,none⟩=some v0) (h1:w.cell? ⟨q,0,none⟩=some v1) (h2:w.cell? ⟨r,0,none⟩=some v2) (f0:w.frozen? ⟨p,0,none⟩=false) (f1:w.frozen? ⟨q,0,none⟩=false) (f2:w.frozen? ⟨r,0,none⟩=false) (hpq:p≠q) (hpr:p≠r) (hqr:q≠r) :
  CallsD Tryz.prog 86 #[.pointer (some ⟨p,0,none⟩),.pointer (some ⟨q,0,none⟩),.pointer (some ⟨r,0,none⟩)] (.panicking [{ v:=Jx E k,recovered:=false }]) w fun e u' w'=>e=.returned (.tuple #[])/\u'=.panicking [{ v:=Jx E k,recovered:=true }]/\Kp [p,q,r] w w'/\w'.cell? ⟨p,0,none⟩=some (.pointer none)/\w'.cell? ⟨q,0,none⟩=some (.int .i64 (E:Int))/\w'.cell? ⟨r,0,none⟩=some (.int .i64 (k:Int)):=by
 have hta:∀ w:World,(Instr.typeAssert (Jx E k) 20 118 true).run Tryz.prog w=.ok (.tuple #[.agg #[.int .i64 (E:Int),.int .i64 (k:Int)],.bool true]) w:=fun w=>by kernel_rfl
 refine callsD_of_wpS Tryz.func86 rfl fun c₀ cs hu=>?_;apply wpS_seq;apply wpS_region;simp [wpOpsS,go_sem,recoverD,hu,Tryz.ntmps86,Exit.thenS];refine wpS_of_wp ?_;have hrep:(Array.replicate 13 undef:Array Value)=#[undef,undef,undef,undef,undef,undef,undef,undef,undef,undef,undef,undef,undef]:=rfl;rw [hrep];simp only [OQ,Ot,Ox,Ni,Np,Nq];have ka:=Kp.alloc [] w (.cells #[.int .i64 (E:Int),.int .i64 (k:Int)] 118);have BN:=Bl.alloc w [.int .i64 (E:Int),.int .i64 (k:Int)] 118;have lp:=World.block_lt_of_cell? _ _ h0;have lq:=World.block_lt_of_cell? _ _ h1;have lr:=World.block_lt_of_cell? _ _ h2;have g0:=(ka.cell (p:=⟨p,0,none⟩) lp (by simp)).trans h0;have g1:=(ka.cell (p:=⟨q,0,none⟩) lq (by simp)).trans h1;have g2:=(ka.cell (p:=⟨r,0,none⟩) lr (by simp)).trans h2;have e0:=(ka.frozen (p:=⟨p,0,none⟩) lp (by simp)).trans f0;have e1:=(ka.frozen (p:=⟨q,0,none⟩) lq (by simp)).trans f1;have e2:=(ka.frozen (p:=⟨r,0,none⟩) lr (by simp)).trans f2
 go_upto_region 7 with fail
 obtain ⟨t,ht⟩:∃ t,t=w.heap.size:=⟨_,rfl⟩;obtain ⟨W,hW⟩:∃ W,W=w.alloc (.cells #[.int .i64 (E:Int),.int .i64 (k:Int)] 118):=⟨_,rfl⟩;have hpt:p≠t:=by have lp:p < w.heap.size:=lp;omega
 have hqt:q≠t:=by have lq:q < w.heap.size:=lq;omega
 have hrt:r≠t:=by have lr:r < w.heap.size:=lr;omega
 rw [<-ht,<-hW] at BN;rw [<-hW] at g0 g1 g2 e0 e1 e2 ka;rw [<-ht,<-hW];have c0:=BN.at_ 0 _ rfl;have c1:=BN.at_ 1 _ rfl;have KA:=hid ka;clear ht hW lp lq lr BN ka h0 h1 h2 f0 f1 f2;have FIN:Kp [p,q,r] w (((W.setCell ⟨p,0,none⟩ (.pointer none)).setCell ⟨q,0,none⟩ (.int .i64 (E:Int))).setCell ⟨r,0,none⟩ (.int .i64 (k:Int))).drew/\(((W.setCell ⟨p,0,none⟩ (.pointer none)).setCell ⟨q,0,none⟩ (.int .i64 (E:Int))).setCell ⟨r,0,none⟩ (.int .i64 (k:Int))).drew.cell? ⟨p,0,none⟩=some (.pointer none)/\(((W.setCell ⟨p,0,none⟩ (.pointer none)).setCell ⟨q,0,none⟩ (.int .i64 (E:Int))).setCell ⟨r,0,none⟩ (.int .i64 (k:Int))).drew.cell? ⟨q,0,none⟩=some (.int .i64 (E:Int))/\(((W.setCell ⟨p,0,none⟩ (.pointer none)).setCell ⟨q,0,none⟩ (.int .i64 (E:Int))).setCell ⟨r,0,none⟩ (.int .i64 (k:Int))).drew.cell? ⟨r,0,none⟩=some (.int .i64 (k:Int)):=by
  have a1:(W.setCell ⟨p,0,none⟩ (.pointer none)).cell? ⟨q,0,none⟩=some v1:=(aq _ (fun e=>by injection e with e _ _;exact hpq e)).trans g1;have a2:((W.setCell ⟨p,0,none⟩ (.pointer none)).setCell ⟨q,0,none⟩ (.int .i64 (E:Int))).cell? ⟨r,0,none⟩=some v2:=(aq _ (fun e=>by injection e with e _ _;exact hqr e)).trans ((aq _ (fun e=>by injection e with e _ _;exact hpr e)).trans g2);refine ⟨(KA.out.mono (by simp)).trans ((Kp.setCell _ _ (by simp)).trans ((Kp.setCell _ _ (by simp)).trans ((Kp.setCell _ _ (by simp)).trans (Kp.drew _ _)))),?_,?_,?_⟩
  .exact (aq _ (fun e=>by injection e with e _ _;exact hpr e.symm)).trans ((aq _ (fun e=>by injection e with e _ _;exact hpq e.symm)).trans (aw _ g0))
  .exact (aq _ (fun e=>by injection e with e _ _;exact hqr e.symm)).trans (aw _ a1)
  .exact aw _ a2
 have HF:=hid FIN;clear FIN;go_region_with fail
 all_goals
  obtain ⟨b1,b2,b3,b4⟩:=HF.out;clear HF;generalize (((W.setCell ⟨p,0,none⟩ (.pointer none)).setCell ⟨q,0,none⟩ (.int .i64 (E:Int))).setCell ⟨r,0,none⟩ (.int .i64 (k:Int))).drew=W4 at *;exact ⟨rfl,_,rfl,_,results_none rfl _ _ _,rfl,rfl,b1,b2,b3,b4⟩
theorem DT {E k a:Nat} {src:ByteArray} {w:World} (hw:Nm w) (ha:w.cell? ⟨a,0,none⟩=some (.string src)) (h:∀ W:World,Nm W->W.cell? ⟨a,0,none⟩=some (.string src)->Calls Tryz.prog 45 #[.pointer (some ⟨a,0,none⟩)] W fun e w'=>e=gE E k/\Kp [] W w') :
  Calls Tryz.prog 44 #[.func (.func 45) #[] #[.pointer (some ⟨a,0,none⟩)]] w fun e w'=>e=.returned (.tuple #[.pointer none,.int .i64 (E:Int),.int .i64 (k:Int)])/\Kp [] w w':=by
 have hmf:∀ (fn:Fn) (first cap:Array Value) (w:World),(Instr.makeFunc fn first cap).run Tryz.prog w=.ok (.func fn first cap) w:=fun _ _ _ _=>rfl;go_enter_defers Tryz.func44,Tryz.ntmps44
 go_wp2_with fail;obtain ⟨W,hW⟩:∃ W:World,W=((w.alloc (.cells #[.pointer none] 66)).alloc (.cells #[.int .i64 0] 24)).alloc (.cells #[.int .i64 0] 3):=⟨_,rfl⟩;have kW:Kp [] w W:=by rw [hW];exact (Kp.alloc _ _ _).trans ((Kp.alloc _ _ _).trans (Kp.alloc _ _ _))
 have zW:W.heap.size=w.heap.size+3:=by rw [hW];simp
 have a0:W.cell? ⟨w.heap.size,0,none⟩=some (.pointer none):=by rw [hW];simp [go_sem]
 have a1:W.cell? ⟨w.heap.size+1,0,none⟩=some (.int .i64 0):=by rw [hW];simp [go_sem]
 have a2:W.cell? ⟨w.heap.size+1+1,0,none⟩=some (.int .i64 0):=by rw [hW];simp [go_sem]
 have f0:W.frozen? ⟨w.heap.size,0,none⟩=false:=by rw [hW];simp [go_sem]
 have f1:W.frozen? ⟨w.heap.size+1,0,none⟩=false:=by rw [hW];simp [go_sem]
 have f2:W.frozen? ⟨w.heap.size+1+1,0,none⟩=false:=by rw [hW];simp [go_sem]
 rw [<-hW];clear hW;refine (h W (hw.aj kW (by simp)) ((kW.cell (p:=⟨a,0,none⟩) (World.block_lt_of_cell? _ _ ha) (by simp)).trans ha)).mono ?_;rintro e w1 ⟨rfl,k1⟩;have b0:=(k1.cell (p:=⟨w.heap.size,0,none⟩) (by simp;omega) (by simp)).trans a0;have b1:=(k1.cell (p:=⟨w.heap.size+1,0,none⟩) (by simp;omega) (by simp)).trans a1;have b2:=(k1.cell (p:=⟨w.heap.size+1+1,0,none⟩) (by simp;omega) (by simp)).trans a2;have g0:=(k1.frozen (p:=⟨w.heap.size,0,none⟩) (by simp;omega) (by simp)).trans f0;have g1:=(k1.frozen (p:=⟨w.heap.size+1,0,none⟩) (by simp;omega) (by simp)).trans f1;have g2:=(k1.frozen (p:=⟨w.heap.size+1+1,0,none⟩) (by simp;omega) (by simp)).trans f2;clear a0 a1 a2 f0 f1 f2;go_wp2_with fail;refine leaves_cons (f:=86) (args:=#[.pointer (some ⟨w.heap.size,0,none⟩),.pointer (some ⟨w.heap.size+1,0,none⟩),.pointer (some ⟨w.heap.size+1+1,0,none⟩)]) (by simp) (by simp [go_sem]) ?_;refine (DV b0 b1 b2 g0 g1 g2 (by omega) (by omega) (by omega)).mono ?_
 rintro e u' w2 ⟨rfl,rfl,k2,d0,d1,d2⟩;have K2:=Kp.own (x:=w.heap.size) (Kp.own (x:=w.heap.size+1) (Kp.own (x:=w.heap.size+1+1) (S:=[w.heap.size+1,w.heap.size]) (((kW.trans k1).mono (by simp)).trans (k2.mono (by simp))) (by omega)) (by omega)) (by omega);simp [Leaves,settle,results,Tryz.results44,go_sem,d0,d1,d2];exact K2
theorem yJ {E k a:Nat} {src:ByteArray} (h:oV src 0 E k) (W:World) (hW:Nm W) (ha:W.cell? ⟨a,0,none⟩=some (.string src)):Calls Tryz.prog 45 #[.pointer (some ⟨a,0,none⟩)] W fun e w'=>e=gE E k/\Kp [] W w':=by
 have H:=hid (h W hW);clear h;go_enter Tryz.func45,Tryz.ntmps45
 go_wp2_with fail;refine H.out.mono ?_;rintro e w1 ⟨rfl,k1⟩;go_wp2_with fail;exact ⟨rfl,rfl,k1⟩
theorem ph {E k:Nat} {src:ByteArray} {w:World} (hw:Nm w) (h:oV src 0 E k):Calls Tryz.prog 31 #[.string src] w fun e w'=>e=.returned (.tuple #[.pointer none,.int .i64 (E:Int),.int .i64 (k:Int)])/\Kp [] w w':=by
 have hmf:∀ (fn:Fn) (first cap:Array Value) (w:World),(Instr.makeFunc fn first cap).run Tryz.prog w=.ok (.func fn first cap) w:=fun _ _ _ _=>rfl;have k0:=Kp.alloc [] w (.cells #[.string src] 9);go_enter Tryz.func31,Tryz.ntmps31
 go_wp2_with fail;refine (DT (a:=w.heap.size) (src:=src) (hw.aj k0 (by simp)) (by simp) (yJ h)).mono ?_;rintro e w1 ⟨rfl,k1⟩;go_wp2_with fail;go_ret3
 exact ⟨rfl,k0.trans k1⟩
def MatO (w:World) (text:ByteArray):Except qX (Nat×Pn)->Ending->World->Prop
 | .error (E,k),e,w'=>e=.returned (.tuple #[.slice none 0 0,.int .i64 (E:Int),.int .i64 (k:Int)])/\Kp [] w w'
 | .ok (G,x),e,w'=>Kp [] w w'/\∃ s',Runs (cdL (codeOf x.pi)) (1+x.pi.len) x.pi.dd text (x.pi.em 1 0 0).2 (text.size+1) 0 [] mc0 s' /\
   ((s'.fd=false/\e=.returned (.tuple #[.slice none 0 0,.int .i64 0,.int .i64 0])) \/
    (s'.fd=true/\∃ q z,e=.returned (.tuple #[.slice (some ⟨q,0,none⟩) (2+2 * G) z,.int .i64 0,.int .i64 0])/\w'.ownsRow w.heap.size 3 1 (.slice (some ⟨q,0,none⟩) (2+2 * G) z) (2+2 * G) ((nf s'.eX).take (2+2 * G))))
def matE (src text:ByteArray):Except qX (Nat×Pn):=if 1000 < text.size then .error (1,0) else iD src 0
theorem match_t (src text:ByteArray) (hs:src.size < 4611686018427387904) {w:World} (hw:Nm w):Calls Tryz.prog 19 #[.string src,.string text] w (MatO w text (matE src text)):=by
 unfold matE;by_cases h1:1000 < text.size
 .rw [Ny h1];have hts:(1000:Int) < text.size:=by omega
  go_enter Tryz.func19,Tryz.ntmps19
  go_wp2_with fail;go_ret3
  exact ⟨rfl,Kp.refl _ _⟩
 .rw [Nr h1];have hts:¬ (1000:Int) < text.size:=by omega
  have H:match iD src 0 with
    | .ok (G,x)=>pK G x/\src.size<=100+0/\Reads src 0 G (1+x.pi.len) ((x.pi.em 1 0 0).2:Nat) x.pi.dd (aX (codeOf x.pi))
    | .error (E,pl)=>oV src 0 E pl/\1<=E/\E<=3:=by
   by_cases h2:100+0 < src.size
   .rw [show iD src 0=.error (1,0) by unfold iD;rw [Ny h2]];exact ⟨nY h2 hs,by omega,by omega⟩
   .exact yK (src:=src) (fr:=0) (by omega) (NH _)
  cases e:iD src 0 with
  | error z=>
   obtain ⟨E,k⟩:=z;rw [e] at H;obtain ⟨hF,hE,_⟩:=H;have hq:((E:Int) == 0)=false:=by rw [Nz];omega
   have HF:=hid (ph hw hF);clear hF hE e hw;go_enter Tryz.func19,Tryz.ntmps19
   go_wp2_with fail;refine HF.out.mono ?_;rintro e w1 ⟨rfl,k1⟩;go_wp2_with fail;go_ret3
   exact ⟨rfl,k1⟩
  | ok z=>
   obtain ⟨G,x⟩:=z;rw [e] at H;obtain ⟨hq,hsz,hr⟩:=H;have HR:=hid (nW hw (by omega) (by omega) hr);have HQ:=hid hq;have HT:=hid h1;clear hr e hw hq hsz h1;go_enter Tryz.func19,Tryz.ntmps19
   go_wp2_with fail;refine HR.out.mono ?_;rintro e w1 ⟨p,rfl,pt,k1⟩;obtain ⟨g,c,hcd1⟩:=IL (HQ.out.ok.sm noB) pt;have HCD:=hid (And.intro hcd1 (And.intro pt.c1 pt.c2));clear hcd1 pt HR;go_wp2_with fail;refine (BV (bg:=(x.pi.em 1 0 0).2) (G:=G) HCD.out.1 HCD.out.2.1 HCD.out.2.2 (xP (q:=⟨src,G,x⟩) HQ.out).bg HQ.out.dd HQ.out.g (by have:=HT.out;omega)).mono ?_;rintro e w2 ⟨k2,s',runs,hr⟩;have HRU:=hid runs;clear runs;rcases hr with ⟨hfd,rfl⟩ | ⟨hfd,b,z,rfl,hc⟩
   .have HFD:=hid hfd;clear hfd;go_wp2_with fail;go_ret3
    exact ⟨k1.trans k2,s',HRU.out,.inl ⟨HFD.out,rfl⟩⟩
   .have HC:=hid (And.intro hfd (aO hc k1.size));clear hc hfd;go_wp2_with fail;go_ret3
    exact ⟨k1.trans k2,s',HRU.out,.inr ⟨HC.out.1,b,z,rfl,HC.out.2⟩⟩
