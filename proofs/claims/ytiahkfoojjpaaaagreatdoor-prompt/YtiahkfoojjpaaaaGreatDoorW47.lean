/- What the claim needs of: XR XS XT XU. -/
import Derived.Test.YtiahkfoojjpaaaaGreatDoorW46
import Derived.Test.YtiahkfoojjpaaaaGreatDoorW20
import Derived.Deep.LoopGhost
import Derived.Test.YtiahkfoojjpaaaaGreatDoorW22
set_option maxRecDepth 100000
set_option maxHeartbeats 16000000
set_option linter.unusedVariables false
set_option linter.unusedSimpArgs false
namespace Go.Proofs.YtiahkfoojjpaaaaGreatDoor
open Go.RowKit
section
variable {w0 w w' w2:World} {mb sb db lo hi:Nat} {s s':Mst} {u:Ust} {σ:Sst} {S:eI}
theorem rp {x E:Nat} {W:World} (hx:W.cell? ⟨x,0,none⟩=some (.pointer (some ⟨mb,0,none⟩))) (h:Mac w0 W mb sb db s) (hxm:x≠mb) :
  CallsD Tryz.prog 81 #[.pointer (some ⟨x,0,none⟩)] (.panicking [{ v:=fltV E 0,recovered:=false }]) W fun e u' w'=>e=.returned (.tuple #[])/\u'=.panicking [{ v:=fltV E 0,recovered:=true }]/\de w0 mb sb db W s w' ({ s with over:=true,err:=E }:Mst).p:=by
 have hta:∀ w:World,(Instr.typeAssert (fltV E 0) 20 118 true).run Tryz.prog w=.ok (.tuple #[.agg #[.int .i64 (E:Int),.int .i64 0],.bool true]) w:=fun w=>by kernel_rfl
 refine callsD_of_wpS Tryz.func81 rfl fun c₀ cs hu=>?_;apply wpS_seq;apply wpS_region;simp [wpOpsS,go_sem,recoverD,hu,Tryz.ntmps81,Exit.thenS];refine wpS_of_wp ?_;have hrep:(Array.replicate 17 undef:Array Value)=#[undef,undef,undef,undef,undef,undef,undef,undef,undef,undef,undef,undef,undef,undef,undef,undef,undef]:=rfl;rw [hrep];simp only [Px,OU,Pw,NX,N5,N6];have ka:=Kp.alloc [] W (.cells #[.int .i64 (E:Int),.int .i64 0] 118);have BN:=Bl.alloc W [.int .i64 (E:Int),.int .i64 0] 118;have lx:=World.block_lt_of_cell? _ _ hx;have gx:=(ka.cell (p:=⟨x,0,none⟩) lx (by simp)).trans hx;have m1:=h.aj ka;go_upto_region 7 with fail
 obtain ⟨t,ht⟩:∃ t,t=W.heap.size:=⟨_,rfl⟩;obtain ⟨W1,hW⟩:∃ W1,W1=W.alloc (.cells #[.int .i64 (E:Int),.int .i64 0] 118):=⟨_,rfl⟩;have hmt:mb≠t:=by have:=h.b.lt;omega
 rw [<-ht,<-hW] at BN;rw [<-hW] at gx m1 ka;rw [<-ht,<-hW];have c0:=BN.at_ 0 _ rfl;have c17:=m1.b.at_ 17 _ rfl;have f17:=m1.b.free 17;have c18:=m1.b.at_ 18 _ rfl;have f18:=m1.b.free 18;have m2:=m1.set (s':={ s with over:=true }) 17 (.bool true) (by omega) rfl rfl;have m3:=m2.set (s':={ s with over:=true,err:=E }) 18 (.int .i64 (E:Int)) (by omega) rfl rfl;have m4:=m3.aj (Kp.drew [] _);have G:Hid (de w0 mb sb db W s ((W1.setCell ⟨mb,17,none⟩ (.bool true)).setCell ⟨mb,18,none⟩ (.int .i64 (E:Int))).drew ({ s with over:=true,err:=E }:Mst).p):=hid ⟨_,rfl,m4,(Gr.df ka (fun _ e=>by cases e)).trans ((Gr.set _ _ _ _).trans ((Gr.set _ _ _ _).trans (Gr.df (Kp.drew [] _) (fun _ e=>by cases e))))⟩;clear ht hW lx BN ka hx m1 m2 m3 m4 h;go_region_with fail
 all_goals
  generalize ((W1.setCell ⟨mb,17,none⟩ (.bool true)).setCell ⟨mb,18,none⟩ (.int .i64 (E:Int))).drew=W4 at *;exact ⟨rfl,_,rfl,_,results_none rfl _ _ _,rfl,rfl,G.out⟩
end
def Ust.inC (n:Nat) (u:Ust):Nat:=(2001 - u.steps) * (n+2)+(n+1 - u.pc)+(if u.aE=.no then 1 else 0)
def Ust.oQ (n:Nat) (u:Ust):Nat:=u.left.length * (2002 * (n+2)+n+3)+u.inC n
section
variable {S:eI} {u u1 u2:Ust}
theorem Nx (n:Nat) (u:Ust):u.inC n+1 < 2002 * (n+2)+n+3:=by
 unfold Ust.inC;have h:(2001 - u.steps) * (n+2)<=2001 * (n+2):=On _ (by omega);have h2:2002 * (n+2)=2001 * (n+2)+(n+2):=by omega
 split <;> omega
theorem Im (n:Nat) (u:Ust) (S:eI) (hn:n=S.aI.length):u.oQ n < u.fuel S:=by
 unfold Ust.oQ Ust.fuel;have:=Nx n u;rw [<-hn,Ow,Oz];omega
theorem LI {n:Nat} {v w:Ust} (h1:w.steps=v.steps+1) (h2:v.steps < 2000) (h3:v.pc < n) (h4:v.aE=.no):w.inC n < v.inC n:=by
 unfold Ust.inC;rw [Oa h4,h1];obtain ⟨a,ha⟩:∃ a,2001 - v.steps=a+1:=⟨2000 - v.steps,by omega⟩;rw [ha,show 2001 - (v.steps+1)=a by omega,Ow,Oz];split <;> omega
theorem nK (hP:eS S) (h:gE S u) (hw:u.aE=.no) (e:u.look S=.ok u2):gE S u2/\u2.left=u.left/\u2.inC S.aI.length < u.inC S.aI.length:=by
 unfold Ust.look at e
 cases hcm:S.aI[u.pc]? with
 | none=>
  rw [hcm] at e;obtain ⟨k,hp,hb,hwb⟩:=fh h.ok.ok e;refine ⟨⟨⟨k.ok,k.fb.trans h.ok.fb,k.rg.trans h.ok.rg,by rw [hp];exact h.ok.pc,by rw [k.st];exact h.ok.st⟩,by rw [hb];exact Og _,fun _=>hb⟩,k.lf,?_⟩;unfold Ust.inC;rw [k.st,hp,hwb,hw];simp
 | some c=>
  rw [hcm] at e;have hlt:=(List.getElem?_eq_some_iff.1 hcm).1;have hm:c∈S.aI:=Oo hcm;dsimp only at e;by_cases hpl:c.what=125\/c.what=58
  .rw [Oa hpl] at e;injection e with e;subst e;have hk:=h.ok.ok;refine ⟨⟨⟨⟨hk.sp,hk.hd,hk.ct,hk.ot,hk.fb,hk.bt,hk.bl,hk.lf⟩,h.ok.fb,h.ok.rg,by show u.pc+1<=_;omega,h.ok.st⟩,h.bs,h.bw⟩,rfl,?_⟩;unfold Ust.inC;dsimp only;omega
  .rw [N7 hpl] at e;by_cases hst:2000 < u.steps+1
   .rw [Oa hst] at e
    cases e
   .rw [N7 hst] at e;have hk:=h.ok.ok;obtain ⟨u3,hu3⟩:∃ u3:Ust,u3={ u with pc:=u.pc+1,steps:=u.steps+1 }:=⟨_,rfl⟩;rw [<-hu3] at e;have s3:u3.steps=u.steps+1:=by rw [hu3]
    obtain ⟨rg,har,hrl⟩:=fj u3 c;have ok3:SOk S (u3.addressed c).2:=by
     rw [har,hu3];exact ⟨⟨hk.sp,hk.hd,hk.ct,hk.ot,hk.fb,hk.bt,hk.bl,hk.lf⟩,h.ok.fb,by rw [hu3] at hrl;exact hrl.trans h.ok.rg,by show u.pc+1<=_;omega,by show u.steps+1<=2000;omega⟩
    have b3:(u3.addressed c).2.br=u.br:=by rw [har,hu3]
    have st3:(u3.addressed c).2.steps=u.steps+1:=by rw [har,hu3]
    have w3:(u3.addressed c).2.aE=.no:=by rw [har,hu3];exact hw
    have l3:(u3.addressed c).2.left=u.left:=by rw [har,hu3]
    have hbs:=h.bs;have fin:∀ u',SOk S u'->u'.br.length<=u.br.length+1->(u'.aE≠.no->u'.br=[])->u'.steps=u.steps+1->u'.left=u.left->gE S u'/\u'.left=u.left/\u'.inC S.aI.length < u.inC S.aI.length:=fun u' h1 h2 h3 h4 h5=>
     ⟨⟨h1,by omega,h3⟩,h5,LI h4 (by omega) hlt hw⟩
    split at e
    .obtain ⟨k,hp⟩:=Cu (n:=S.aI.length) ok3.ok (by rw [b3];omega) (hP.ok c hm).tx (hP.gl c hm) ok3.pc e;refine fin u2 ⟨k.ok,k.fb.trans ok3.fb,k.rg.trans ok3.rg,hp,by rw [k.st];exact ok3.st⟩ (by have:=k.br;rw [b3] at this;exact this) (fun q=>?_) (by rw [k.st];exact st3) (k.lf.trans l3);rcases k.bw with r | r
     .rw [w3] at r;exact absurd r q
     .exact r
    .split at e
     .injection e with e;subst e;exact fin _ ⟨⟨ok3.ok.sp,ok3.ok.hd,ok3.ok.ct,ok3.ok.ot,ok3.ok.fb,ok3.ok.bt,ok3.ok.bl,ok3.ok.lf⟩,ok3.fb,ok3.rg,hP.gl c hm,ok3.st⟩ (by show (u3.addressed c).2.br.length<=_;rw [b3];omega) (fun q=>absurd w3 q) st3 l3
     .injection e with e;subst e;exact fin _ ok3 (by rw [b3];omega) (fun q=>absurd w3 q) st3 l3
theorem nG (h:u.there=true):((cutL u.left).2.getD []).length < u.left.length:=by
 cases hc:(cutL u.left).2 with
 | some R=>
  have:=congrArg List.length (iG hc).1;simp at this;simp;omega
 | none=>
  simp only [Option.getD_none,Pa];unfold Ust.there at h;rw [hc] at h
  cases hl:u.left with
  | nil=>rw [hl] at h;simp at h
  | cons a l=>simp
theorem dK (h:gE S u) (e:u.ay=.ok (some u1)):gE S u1/\u1.aE=.no/\((u.aE=.no/\u1=u)\/u1.left.length < u.left.length):=by
 cases hw:u.aE with
 | no=>
  unfold Ust.ay at e;rw [hw] at e;injection e with e;injection e with e;subst e;exact ⟨h,hw,.inl ⟨rfl,rfl⟩⟩
 | bw=>
  have hb:=h.bw (by rw [hw];simp);unfold Ust.ay at e;rw [hw] at e;dsimp only at e;split at e
  .cases e
  .rename_i hl;split at e
   .rename_i hth;injection e with e;injection e with e;subst e;have k:=h.ok.ok.oc hth;exact ⟨⟨⟨⟨by show (cutL u.left).1.length<=4000;omega,k.hd,k.ct,k.ot,k.fb,k.bt,k.bl,k.lf⟩,h.ok.fb,h.ok.rg,Og _,Og _⟩,by show u.br.length<=0;rw [hb];exact Od _,fun q=>absurd rfl q⟩,rfl,.inr (nG hth)⟩
   .injection e with e
    cases e
 | gw=>
  have hb:=h.bw (by rw [hw];simp);unfold Ust.ay at e;rw [hw] at e;dsimp only at e;split at e
  .cases e
  .rename_i hl;split at e
   .rename_i hth;injection e with e;injection e with e;subst e;have k:=h.ok.ok.oc hth;exact ⟨⟨⟨⟨by show (cutL u.left).1.length<=4000;omega,k.hd,k.ct,k.ot,k.fb,k.bt,k.bl,k.lf⟩,h.ok.fb,h.ok.rg,h.ok.pc,h.ok.st⟩,by show u.br.length<=u.steps;exact h.bs,fun q=>absurd rfl q⟩,rfl,.inr (nG hth)⟩
   .injection e with e
    cases e
 | gm=>
  have hb:=h.bw (by rw [hw];simp);unfold Ust.ay at e;rw [hw] at e;dsimp only at e;split at e
  .cases e
  .rename_i hl;split at e
   .rename_i hth;split at e
    .cases e
    .rename_i u3 hj;injection e with e;injection e with e;subst e;obtain ⟨t,htl,rfl⟩:=jK hj;have k:=h.ok.ok.oc hth;exact ⟨⟨⟨⟨htl,k.hd,k.ct,k.ot,k.fb,k.bt,k.bl,k.lf⟩,h.ok.fb,h.ok.rg,h.ok.pc,h.ok.st⟩,h.bs,fun q=>absurd rfl q⟩,rfl,.inr (nG hth)⟩
   .injection e with e
    cases e
theorem eZ (hP:eS S) (h:gE S u) (e1:u.ay=.ok (some u1)) (e2:u1.look S=.ok u2):gE S u2/\u2.oQ S.aI.length < u.oQ S.aI.length:=by
 obtain ⟨h1,hw1,hc⟩:=dK h e1;obtain ⟨h2,hl2,hi2⟩:=nK hP h1 hw1 e2;refine ⟨h2,?_⟩;unfold Ust.oQ;rw [hl2];rcases hc with ⟨_,rfl⟩ | hlt
 .omega
 .have:=Nx S.aI.length u1;have hm:(u1.left.length+1) * (2002 * (S.aI.length+2)+S.aI.length+3)<=u.left.length * (2002 * (S.aI.length+2)+S.aI.length+3):=On _ hlt;rw [Ow,Oz] at hm;omega
end
def gI:Except (Nat×Ust) Ust->Ust
 | .error (e,u1)=>{ u1 with over:=true,err:=e }
 | .ok u1=>u1
theorem jC (S:eI) (u:Ust):u.run S=gI (Ust.runF S (u.fuel S) u):=by
 unfold Ust.run
 cases Ust.runF S (u.fuel S) u <;> rfl
section
variable {w0 w w' w2:World} {mb sb db lo hi:Nat} {s s':Mst} {u:Ust} {σ:Sst} {S:eI}
theorem run_t (hP:Prg w0 lo hi sb σ S) (h:Mac w0 w mb sb db s) (hp:s.p=u.p) (hu:gE S u) :
  Calls Tryz.prog 42 #[.pointer (some ⟨mb,0,none⟩)] w fun r w'=>r=.returned (.tuple #[])/\de w0 mb sb db w s w' (u.run S).p:=by
 have hmf:∀ (fn:Fn) (first cap:Array Value) (w:World),(Instr.makeFunc fn first cap).run Tryz.prog w=.ok (.func fn first cap) w:=fun _ _ _ _=>rfl;rw [jC];have hmeas:=Im S.aI.length u S rfl;obtain ⟨n,hn⟩:∃ n,n=u.fuel S:=⟨_,rfl⟩;rw [<-hn] at hmeas ⊢;obtain ⟨RR,hRR⟩:∃ RR,RR=Ust.runF S n u:=⟨_,rfl⟩;rw [<-hRR];have HM:=hid (And.intro hmeas hRR);have HPG:=hid hP;have HU:=hid hu;have HPP:=hid hp;clear hn hRR hmeas hP hu hp;obtain ⟨o,ho⟩:∃ o:Obj,o=.cells #[.pointer (some ⟨mb,0,none⟩)] 61:=⟨_,rfl⟩;have k1:=Kp.alloc [] w o;have m1:=h.aj k1;have BX:Bl (w.alloc o) w.heap.size [.pointer (some ⟨mb,0,none⟩)]:=by rw [ho];exact Bl.alloc w _ _
 have far:=(h.dR (Od w.heap.size)).2;have hxm:w.heap.size≠mb:=fun e=>far 0 (by rw [e];rfl);obtain ⟨x,hx⟩:∃ x,x=w.heap.size:=⟨_,rfl⟩;obtain ⟨wa,hwa⟩:∃ wa,wa=w.alloc o:=⟨_,rfl⟩;have HO:=hid ho;go_enter_defers Tryz.func42,Tryz.ntmps42
 go_wp2_with fail;rw [<-hx];rw [<-ho,<-hwa];rw [<-hx] at BX far hxm;rw [<-hwa] at BX m1 k1;clear hx hwa ho HO;have BXH:=hid BX;go_loopg [3] n (fun k _ wr=>∃ (s1:Mst) (u1:Ust),Mac w0 wr mb sb db s1/\Hid (s1.p=u1.p)/\Hid (gE S u1)/\Hid (u1.oQ S.aI.length < k/\RR=Ust.runF S k u1)/\Gr mb db wa s.r wr s1.r)
 case atStart=>exact ⟨s,u,m1,HPP,HU,HM,Gr.refl _ _ _ _⟩
 case round=>
  obtain ⟨s1,u1,ms,HP1,HU1,HR,gs⟩:=hrel;have b1:=(gs.bl BXH.out far).at_ 0 _ rfl;have c17:=ms.b.at_ 17 _ rfl;have eov:s1.over=u1.over:=congrArg Pst.over HP1.out;rw [eov] at c17;obtain ⟨hk,hRR⟩:=HR.out;obtain ⟨k',hkk⟩:=Nat.exists_eq_succ_of_ne_zero (Nat.ne_of_gt (Nat.lt_of_le_of_lt (Og _) hk));rw [hkk] at hk hRR;have HKK:=hid hkk;clear hkk;unfold Ust.runF at hRR;clear HR eov
  cases hov:u1.over with
  | true=>
   rw [hov] at c17 hRR;rw [Oa rfl] at hRR;have HRR:=hid hRR;clear hRR hk;go_wp2_with fail;refine leaves_cons (f:=81) (args:=#[.pointer (some ⟨x,0,none⟩)]) (by simp) (by simp [go_sem]) ?_;refine (pJ _ _).mono ?_;rintro e u' w'' ⟨rfl,rfl,rfl⟩;simp [Leaves,settle,results,Tryz.results42,go_sem];rw [HRR.out];exact ⟨s1,HP1.out,ms,(Gr.df k1 (fun _ e=>by cases e)).trans gs⟩
  | false=>
   rw [hov] at c17 hRR;rw [N7 (by simp)] at hRR;have ST:=Ds ms HP1.out HU1.out.ok.ok
   cases hsup:u1.ay with
   | error q=>
    obtain ⟨E,u2⟩:=q;rw [hsup] at hRR ST;have HRR:=hid hRR;have HST:=hid ST;clear hRR ST hk hsup hov;go_wp2_with fail;refine HST.out.mono ?_;rintro r w2 ⟨rfl,s2,e2,m2,g2⟩;have g12:=gs.trans g2;have b2:=(g12.bl BXH.out far).at_ 0 _ rfl;go_wp2_with fail;refine leaves_cons (f:=81) (args:=#[.pointer (some ⟨x,0,none⟩)]) (by simp) (by simp [go_sem]) ?_;refine (rp (E:=E) b2 m2 hxm).mono ?_;rintro e u' w3 ⟨rfl,rfl,s3,e3,m3,g3⟩;simp [Leaves,settle,results,Tryz.results42,go_sem];rw [HRR.out];refine ⟨s3,e3.trans ?_,m3,(Gr.df k1 (fun _ e=>by cases e)).trans (g12.trans g3)⟩;show ({ s2.p with over:=true,err:=E }:Pst)=_;rw [e2]
    rfl
   | ok o=>
    cases o with
    | none=>
     rw [hsup] at hRR ST;have HRR:=hid hRR;have HST:=hid ST;clear hRR ST hk hsup hov;go_wp2_with fail;refine HST.out.mono ?_;rintro r w2 ⟨rfl,s2,e2,m2,g2⟩;go_wp2_with fail;refine leaves_cons (f:=81) (args:=#[.pointer (some ⟨x,0,none⟩)]) (by simp) (by simp [go_sem]) ?_;refine (pJ _ _).mono ?_;rintro e u' w'' ⟨rfl,rfl,rfl⟩;simp [Leaves,settle,results,Tryz.results42,go_sem];rw [HRR.out];exact ⟨s2,e2,m2,(Gr.df k1 (fun _ e=>by cases e)).trans (gs.trans g2)⟩
    | some u2=>
     rw [hsup] at hRR ST;dsimp only at hRR;have HSUP:=hid hsup;have U2:=hid (dK HU1.out hsup).1;have HRR:=hid hRR;have HST:=hid ST;clear hRR ST hsup hov;go_wp2_with fail;refine HST.out.mono ?_;rintro r w2 ⟨rfl,s2,e2,m2,g2⟩;have g12:=gs.trans g2;have b2:=(g12.bl BXH.out far).at_ 0 _ rfl;have LT:=look_t HPG.out m2 e2 U2.out;have hRR:=HRR.out;clear HRR
     cases hlk:u2.look S with
     | error q=>
      obtain ⟨E,u3⟩:=q;rw [hlk] at hRR LT;have HRR:=hid hRR;have HLT:=hid LT;clear hRR LT hlk hk;go_wp2_with fail;refine HLT.out.mono ?_;rintro r w3 ⟨rfl,s3,e3,m3,g3⟩;have g13:=g12.trans g3;have b3:=(g13.bl BXH.out far).at_ 0 _ rfl;go_wp2_with fail;refine leaves_cons (f:=81) (args:=#[.pointer (some ⟨x,0,none⟩)]) (by simp) (by simp [go_sem]) ?_;refine (rp (E:=E) b3 m3 hxm).mono ?_;rintro e u' w4 ⟨rfl,rfl,s4,e4,m4,g4⟩;simp [Leaves,settle,results,Tryz.results42,go_sem];rw [HRR.out];refine ⟨s4,e4.trans ?_,m4,(Gr.df k1 (fun _ e=>by cases e)).trans (g13.trans g4)⟩;show ({ s3.p with over:=true,err:=E }:Pst)=_;rw [e3]
      rfl
     | ok u3=>
      rw [hlk] at hRR LT;dsimp only at hRR;obtain ⟨hi3,hd3⟩:=eZ HPG.out.ok HU1.out HSUP.out hlk;have HRR:=hid hRR;have HLT:=hid LT;have U3:=hid hi3;have HD3:Hid (u3.oQ S.aI.length < k'):=hid (by omega);clear hRR LT hlk hk hi3 hd3;go_wp2_with fail;refine HLT.out.mono ?_;rintro r w3 ⟨rfl,s3,e3,m3,g3⟩;have P3:=hid e3;clear e3;go_wp2_with fail;go_roundg k'
      case measure=>rw [HKK.out];omega
      case rel=>exact ⟨s3,u3,m3,P3,U3,hid ⟨HD3.out,HRR.out⟩,g12.trans g3⟩
end
section
variable {w0 w w' w2:World} {mb sb db lo hi:Nat} {s s':Mst} {u:Ust} {σ:Sst} {S:eI}
theorem Ku (h:Mac w0 w mb sb db s) (hl:s.left.size<=281474976710656) :
  Calls Tryz.prog 84 #[.pointer (some ⟨mb,2,none⟩)] w fun r w'=>r=.returned (.tuple #[])/\de w0 mb sb db w s w' s.p:=by
 have c2:=h.b.at_ 2 _ rfl;have f2:=h.b.free 2;go_enter Tryz.func84,Tryz.ntmps84
 go_wp2_with fail;refine (Az s.left w (by omega)).mono ?_;rintro r w1 ⟨rfl,k1⟩;have m1:=h.aj k1;have d2:=m1.b.at_ 2 _ rfl;have g2:=m1.b.free 2;go_wp2_with fail;go_end0;exact ⟨rfl,s,rfl,m1.set 2 _ (by omega) rfl rfl,(Gr.df k1 (fun _ e=>by cases e)).trans (Gr.set _ _ _ _)⟩
theorem te (h:Mac w0 w mb sb db s) (hl:s.over=false->s.left.size<=281474976710656) :
  Calls Tryz.prog 43 #[.pointer (some ⟨mb,0,none⟩)] w fun r w'=>r=.returned (.agg (fJ s.r.out s.over s.err s.status).toArray)/\de w0 mb sb db w s w' s.p.gW:=by
 have B0:=hid (Bl.alloc w [.string ⟨#[]⟩,.bool false,.int .i64 0,.int .i64 0] 31);have k1:=Kp.alloc [] w (.cells [Value.string ⟨#[]⟩,.bool false,.int .i64 0,.int .i64 0].toArray 31);have m1:=h.aj k1;have far:=(h.dR (Od w.heap.size)).2;have c17:=m1.b.at_ 17 _ rfl;have c2:=m1.b.at_ 2 _ rfl;have f2:=m1.b.free 2;obtain ⟨x,hx⟩:∃ x,x=w.heap.size:=⟨_,rfl⟩;obtain ⟨wa,hwa⟩:∃ wa,wa=w.alloc (.cells [Value.string ⟨#[]⟩,.bool false,.int .i64 0,.int .i64 0].toArray 31):=⟨_,rfl⟩;obtain ⟨l1,hl1⟩:∃ l1:ByteArray,l1=if s.over then ⟨#[]⟩ else s.left:=⟨_,rfl⟩;have HL1:=hid hl1;have hl2:l1.size<=281474976710656:=by
  rw [hl1];split
  .show 0<=281474976710656;omega
  .rename_i q;exact hl (by simpa using q)
 go_enter Tryz.func43,Tryz.ntmps43
 go_upto_if 6 with fail
 rw [<-hx];rw [<-hwa] at B0 k1 m1 c17 c2 f2 ⊢;rw [<-hx] at far B0;have HXX:=hid hx;clear hx hwa hl1;go_cut [3] from 6 (fun _ wx=>∃ s1,s1.p=({ s.p with left:=l1 }:Pst)/\Mac w0 wx mb sb db s1/\Gr mb db wa s.r wx s1.r)
 case first=>
  cases ho:s.over
  .rw [ho] at c17;go_wp2_with fail;go_meet
   case rel=>exact ⟨s,by rw [HL1.out,N7 (by rw [ho];simp)];rfl,m1,Gr.refl _ _ _ _⟩
  .rw [ho] at c17;go_wp2_with fail;go_meet
   case rel=>exact ⟨{ s with left:=⟨#[]⟩ },by rw [HL1.out,Oa ho];rfl,m1.set 2 _ (by omega) rfl rfl,Gr.set _ _ _ _⟩
 case rest=>
 obtain ⟨s1,e1,m2,g2⟩:=hcut;have el:s1.left=l1:=congrArg Pst.left e1;have HST:=hid (Ku m2 (by rw [el];exact hl2));clear c17 c2 f2;go_wp2_with fail;refine HST.out.mono ?_;rintro r w3 ⟨rfl,s3,e3,m3,g3⟩;have g13:=g2.trans g3;have B3:=g13.bl B0.out far;have e13:=e3.trans e1;have eo:s3.over=s.over:=congrArg Pst.over e13;have ee:s3.err=s.err:=congrArg Pst.err e13;have es:s3.status=s.status:=congrArg Pst.status e13;have eu:s3.r.out=s.r.out:=congrArg Pst.out e13;have d17:=m3.b.at_ 17 _ rfl;have d18:=m3.b.at_ 18 _ rfl;have d19:=m3.b.at_ 19 _ rfl;rw [eo] at d17;rw [ee] at d18;rw [es] at d19;have HTO:=hid (F7 (m3.aj (Kp.drew [] w3)));have EQ:=hid (And.intro e13 (And.intro eo (And.intro ee (And.intro es eu))));clear HST el e1 e3 e13 eo ee es eu g2 g3;go_upto_region 4 with fail
 go_cut [3] from 15 (fun _ wx=>∃ s4,s4.p=s.p.gW/\Mac w0 wx mb sb db s4/\Gr mb db w s.r wx s4.r/\Bl wx x (fJ s.r.out s.over s.err s.status))
 case first=>
  have KEY:Hid (∀ wx s4,s4.p=({ s3.p with out:=[] }:Pst)->Mac w0 wx mb sb db s4->wx.cell? ⟨mb,17,none⟩=some (.bool s.over)/\wx.cell? ⟨mb,18,none⟩=some (.int .i64 s.err)/\wx.cell? ⟨mb,19,none⟩=some (.int .i64 s.status)):=hid (fun wx s4 e m=>by
   have o1:s4.over=s.over:=(congrArg Pst.over e).trans EQ.out.2.1;have o2:s4.err=s.err:=(congrArg Pst.err e).trans EQ.out.2.2.1;have o3:s4.status=s.status:=(congrArg Pst.status e).trans EQ.out.2.2.2.1;rw [<-o1,<-o2,<-o3]
   exact ⟨m.b.at_ 17 _ rfl,m.b.at_ 18 _ rfl,m.b.at_ 19 _ rfl⟩)
  have FARX:Hid (∀ i,maB mb db s3.r i≠some x):=hid (fun i e=>by
   rcases g13.from_ i x e with ⟨j,hj⟩ | q
   .exact far j hj
   .have:=B0.out.lt;omega)
  go_region_with (go_at_call 85;refine HTO.out.mono ?_;rintro r w4 ⟨rfl,s4,e4,m4,g4⟩;have q17:=(KEY.out w4 s4 e4 m4).1;have q18:=(KEY.out w4 s4 e4 m4).2.1;have q19:=(KEY.out w4 s4 e4 m4).2.2;have B4:=hid (g4.bl (B3.aj (Kp.drew [] w3) (by simp)) FARX.out);have x0:=B4.out.at_ 0 _ rfl;have x1:=B4.out.at_ 1 _ rfl;have x2:=B4.out.at_ 2 _ rfl;have x3:=B4.out.at_ 3 _ rfl;have y0:=B4.out.free 0;have y1:=B4.out.free 1;have y2:=B4.out.free 2;have y3:=B4.out.free 3)
  all_goals
   go_wp2_with fail;go_meet
   case rel=>
    rw [<-EQ.out.2.2.2.2];have kx:Kp [x] w4 (w4.setCells x 0 (fJ s3.r.out s.over s.err s.status)):=dL (by simp) _ _ _;have gx:Gr mb db wa s.r w4 s4.r:=g13.trans ((Gr.df (r:=s3.r) (Kp.drew [] w3) (fun _ e=>by cases e)).trans g4);have fx:∀ i,maB mb db s4.r i≠some x:=fun i e=>by
     rcases gx.from_ i x e with ⟨j,hj⟩ | q
     .exact far j hj
     .have:=B0.out.lt;omega
    have gw:Gr mb db w s.r w4 s4.r:=(Gr.df k1 (fun _ e=>by cases e)).trans gx;refine ⟨s4,?_,m4.other kx (fun y hy=>?_),⟨Oc gw.size kx.size,gw.from_,fun p hp hn=>(kx.block p (N8 hp gw.size) (fun e=>?_)).trans (gw.same p hp hn)⟩,B4.out.put (vs:=fJ s3.r.out s.over s.err s.status) rfl⟩
    .rw [e4,EQ.out.1,HL1.out];rfl
    .simp at hy;rw [hy];exact ⟨by rw [HXX.out];exact h.r.kp.size,fx⟩
    .simp at e;rw [e,HXX.out] at hp;omega
 case rest=>
 obtain ⟨s4,e4,m4,g4,B4⟩:=hcut;go_wp2_with fail;refine bodyPost_ret (eD (p:=2) (ty:=31) (by rw [Tryz.results43]) _ _ x 0 rfl _ _ B4.range Tryz.underlying31 rfl (by rw [Tryz.eP];rfl)) rfl ⟨rfl,s4,e4,m4,g4⟩
theorem feed_x {data:ByteArray} {p':Pst} (h:Mac w0 w mb sb db s) (ho:s.over=false) (hsz:s.left.size+data.size<=281474976710656) (hr:∀ w1,Mac w0 w1 mb sb db { s with left:=s.left++data }->Calls Tryz.prog 42 #[.pointer (some ⟨mb,0,none⟩)] w1 fun r w'=>r=.returned (.tuple #[])/\de w0 mb sb db w1 { s with left:=s.left++data } w' p') (hl:p'.over=false->p'.left.size<=281474976710656) :
  Calls Tryz.prog 27 #[.pointer (some ⟨mb,0,none⟩),.string data] w fun r w'=>r=.returned (.agg (fJ p'.out p'.over p'.err p'.status).toArray)/\de w0 mb sb db w s w' p'.gW:=by
 have ka:=Kp.alloc [] w (.cells nJ.toArray 31);have m1:=h.aj ka;have c17:=m1.b.at_ 17 _ rfl;rw [ho] at c17;have c2:=m1.b.at_ 2 _ rfl;have f2:=m1.b.free 2;have q1:¬ 9223372036854775807 < s.left.size+data.size:=by omega
 have m2:=m1.set (s':={ s with left:=s.left++data }) 2 (.string (s.left++data)) (by omega) rfl rfl;have HR:=hid (hr _ m2);go_enter Tryz.func27,Tryz.ntmps27
 go_wp2_with fail;refine HR.out.mono ?_;rintro r w1 ⟨rfl,s1,e1,n1,g1⟩;have HP:=hid (te n1 (fun q=>by rw [show s1.left=p'.left from congrArg Pst.left e1];exact hl ((congrArg Pst.over e1).symm.trans q)));have hg:Gr mb db (w.alloc (.cells nJ.toArray 31)) s.r w1 s1.r:=(Gr.set _ _ _ _).trans g1;clear HR;go_wp2_with fail;refine HP.out.mono ?_;rintro r w2 ⟨rfl,s2,e2,n2,g2⟩;have eo:s1.r.out=p'.out:=congrArg Pst.out e1;have ev:s1.over=p'.over:=congrArg Pst.over e1;have ee:s1.err=p'.err:=congrArg Pst.err e1;have es:s1.status=p'.status:=congrArg Pst.status e1;rw [eo,ev,ee,es];have GG:=hid (de.stored (vs:=fJ p'.out p'.over p'.err p'.status) rfl h ⟨s2,e2.trans (by rw [e1]),n2,hg.trans g2⟩ rfl);have B2:=((hg.trans g2).bl (Bl.alloc w nJ 31) (h.dR (Od _)).2)
 have HTH:Hid (w2.there w.heap.size 0 4):=hid (fun j hj=>by
  rw [Oi];have:j < nJ.length:=hj;rw [B2.at_ j _ (Ob this)]
  exact ⟨rfl,B2.free j⟩)
 clear HP eo ev ee es e1 e2 B2;go_wp2_with (refine wpList_store_mid rfl 31 (.tmp 4) (.tmp 23) rfl w.heap.size 0 (fJ p'.out p'.over p'.err p'.status).toArray rfl rfl HTH.out Tryz.eP (all_oneCell_toArray (iK _ _ _ _)) ?_)
 refine bodyPost_ret (eD (p:=4) (ty:=31) (by rw [Tryz.results27]) _ _ w.heap.size 0 rfl _ _ GG.out.2.range Tryz.underlying31 rfl (by rw [Tryz.eP];rfl)) rfl ⟨rfl,GG.out.1⟩
theorem end_x {p':Pst} (h:Mac w0 w mb sb db s) (ho:s.over=false) (hr:∀ w1,Mac w0 w1 mb sb db { s with ended:=true }->Calls Tryz.prog 42 #[.pointer (some ⟨mb,0,none⟩)] w1 fun r w'=>r=.returned (.tuple #[])/\de w0 mb sb db w1 { s with ended:=true } w' p') :
  Calls Tryz.prog 28 #[.pointer (some ⟨mb,0,none⟩)] w fun r w'=>r=.returned (.agg (fJ p'.out true p'.err p'.status).toArray)/\de w0 mb sb db w s w' ({ p' with over:=true }:Pst).gW:=by
 have ka:=Kp.alloc [] w (.cells nJ.toArray 31);have m1:=h.aj ka;have c17:=m1.b.at_ 17 _ rfl;rw [ho] at c17;have c4:=m1.b.at_ 4 _ rfl;have f4:=m1.b.free 4;have m2:=m1.set (s':={ s with ended:=true }) 4 (.bool true) (by omega) rfl rfl;have HR:=hid (hr _ m2);go_enter Tryz.func28,Tryz.ntmps28
 go_wp2_with fail;refine HR.out.mono ?_;rintro r w1 ⟨rfl,s1,e1,n1,g1⟩;have d17:=n1.b.at_ 17 _ rfl;have f17:=n1.b.free 17;have n1':=n1.set (s':={ s1 with over:=true }) 17 (.bool true) (by omega) rfl rfl;have HP:=hid (te n1' (fun q=>by cases q));have hg:Gr mb db (w.alloc (.cells nJ.toArray 31)) s.r (w1.setCell ⟨mb,17,none⟩ (.bool true)) s1.r:=(Gr.set _ _ _ _).trans (g1.trans (Gr.set _ _ _ _));clear HR;go_wp2_with fail;refine HP.out.mono ?_;rintro r w2 ⟨rfl,s2,e2,n2,g2⟩;have eo:s1.r.out=p'.out:=congrArg Pst.out e1;have ee:s1.err=p'.err:=congrArg Pst.err e1;have es:s1.status=p'.status:=congrArg Pst.status e1;show (match Ending.returned (Value.agg (fJ s1.r.out true s1.err s1.status).toArray),w2 with | _,_=>_);rw [eo,ee,es];have GG:=hid (de.stored (p:=({ p' with over:=true }:Pst).gW) (vs:=fJ p'.out true p'.err p'.status) rfl h ⟨s2,e2.trans (by show ({ s1.p with over:=true }:Pst).gW=_;rw [e1]),n2,hg.trans g2⟩ rfl)
 have B2:=((hg.trans g2).bl (Bl.alloc w nJ 31) (h.dR (Od _)).2)
 have HTH:Hid (w2.there w.heap.size 0 4):=hid (fun j hj=>by
  rw [Oi];have:j < nJ.length:=hj;rw [B2.at_ j _ (Ob this)]
  exact ⟨rfl,B2.free j⟩)
 clear HP eo ee es e1 e2 B2;go_wp2_with (refine wpList_store_mid rfl 31 (.tmp 2) (.tmp 18) rfl w.heap.size 0 (fJ p'.out true p'.err p'.status).toArray rfl rfl HTH.out Tryz.eP (all_oneCell_toArray (iK _ _ _ _)) ?_)
 refine bodyPost_ret (eD (p:=2) (ty:=31) (by rw [Tryz.results28]) _ _ w.heap.size 0 rfl _ _ GG.out.2.range Tryz.underlying31 rfl (by rw [Tryz.eP];rfl)) rfl ⟨rfl,GG.out.1⟩
theorem end_o (h:Mac w0 w mb sb db s) (ho:s.over=true) :
  Calls Tryz.prog 28 #[.pointer (some ⟨mb,0,none⟩)] w fun r w'=>r=.returned (.agg (fJ s.r.out true s.err s.status).toArray)/\de w0 mb sb db w s w' s.p.gW:=by
 have ka:=Kp.alloc [] w (.cells nJ.toArray 31);have m1:=h.aj ka;have c17:=m1.b.at_ 17 _ rfl;rw [ho] at c17;have HP:=hid (te m1 (fun q=>by rw [ho] at q;cases q));rw [ho] at HP;go_enter Tryz.func28,Tryz.ntmps28
 go_wp2_with fail;refine HP.out.mono ?_;rintro r w2 ⟨rfl,s2,e2,n2,g2⟩;have GG:=hid (de.stored (vs:=fJ s.r.out true s.err s.status) rfl h ⟨s2,e2,n2,g2⟩ rfl);have B2:=(g2.bl (Bl.alloc w nJ 31) (h.dR (Od _)).2)
 have HTH:Hid (w2.there w.heap.size 0 4):=hid (fun j hj=>by
  rw [Oi];have:j < nJ.length:=hj;rw [B2.at_ j _ (Ob this)]
  exact ⟨rfl,B2.free j⟩)
 clear HP e2 B2;go_wp2_with (refine wpList_store_mid rfl 31 (.tmp 2) (.tmp 18) rfl w.heap.size 0 (fJ s.r.out true s.err s.status).toArray rfl rfl HTH.out Tryz.eP (all_oneCell_toArray (iK _ _ _ _)) ?_)
 refine bodyPost_ret (eD (p:=2) (ty:=31) (by rw [Tryz.results28]) _ _ w.heap.size 0 rfl _ _ GG.out.2.range Tryz.underlying31 rfl (by rw [Tryz.eP];rfl)) rfl ⟨rfl,GG.out.1⟩
theorem feed_o {data:ByteArray} (h:Mac w0 w mb sb db s) (ho:s.over=true) :
  Calls Tryz.prog 27 #[.pointer (some ⟨mb,0,none⟩),.string data] w fun r w'=>r=.returned (.agg (fJ s.r.out true s.err s.status).toArray)/\de w0 mb sb db w s w' s.p.gW:=by
 have ka:=Kp.alloc [] w (.cells nJ.toArray 31);have m1:=h.aj ka;have c17:=m1.b.at_ 17 _ rfl;rw [ho] at c17;have HP:=hid (te m1 (fun q=>by rw [ho] at q;cases q));rw [ho] at HP;go_enter Tryz.func27,Tryz.ntmps27
 go_wp2_with fail;refine HP.out.mono ?_;rintro r w2 ⟨rfl,s2,e2,n2,g2⟩;have GG:=hid (de.stored (vs:=fJ s.r.out true s.err s.status) rfl h ⟨s2,e2,n2,g2⟩ rfl);have B2:=(g2.bl (Bl.alloc w nJ 31) (h.dR (Od _)).2)
 have HTH:Hid (w2.there w.heap.size 0 4):=hid (fun j hj=>by
  rw [Oi];have:j < nJ.length:=hj;rw [B2.at_ j _ (Ob this)]
  exact ⟨rfl,B2.free j⟩)
 clear HP e2 B2;go_wp2_with (refine wpList_store_mid rfl 31 (.tmp 4) (.tmp 23) rfl w.heap.size 0 (fJ s.r.out true s.err s.status).toArray rfl rfl HTH.out Tryz.eP (all_oneCell_toArray (iK _ _ _ _)) ?_)
 refine bodyPost_ret (eD (p:=4) (ty:=31) (by rw [Tryz.results27]) _ _ w.heap.size 0 rfl _ _ GG.out.2.range Tryz.underlying31 rfl (by rw [Tryz.eP];rfl)) rfl ⟨rfl,GG.out.1⟩
end
section
variable {w0 w w' w2:World} {mb sb db lo hi:Nat} {s s':Mst} {u:Ust} {σ:Sst} {S:eI}
theorem ta (hP:eS S):∀ (k:Nat) (u v:Ust),gE S u->Ust.runF S k u=.ok v->gE S v
 | 0,u,v,h,e=>by
  injection e with e;subst e;exact h
 | k+1,u,v,h,e=>by
  unfold Ust.runF at e;split at e
  .injection e with e;subst e;exact h
  .split at e
   .cases e
   .injection e with e;subst e;exact h
   .rename_i u1 h1;split at e
    .cases e
    .rename_i u2 h2;exact ta hP k u2 v (eZ hP h h1 h2).1 e
def Fm (S:eI) (u:Ust):Prop:=(u.over=true/\u.left=[])\/(u.over=false/\gE S u)
theorem GK (hP:eS S) (h:gE S u):(u.run S).over=true\/gE S (u.run S):=by
 rw [jC]
 cases hr:Ust.runF S (u.fuel S) u with
 | error q=>exact .inl rfl
 | ok v=>exact .inr (ta hP _ u v h hr)
theorem jE (h:u.over=true\/gE S u):Fm S u.fH.2:=by
 by_cases ho:u.over=true
 .exact .inl ⟨ho,by show (if u.over then [] else u.left)=[];rw [ho];rfl⟩
 .rcases h with h | h
  .exact absurd h ho
  .have k:=h.ok.ok;have el:u.fH.2={ u with out:=[] }:=by
    unfold Ust.fH;rw [N7 ho]
   rw [el];exact .inr ⟨by simpa using ho,⟨⟨⟨k.sp,k.hd,k.ct,Og _,k.fb,k.bt,k.bl,k.lf⟩,h.ok.fb,h.ok.rg,h.ok.pc,h.ok.st⟩,h.bs,h.bw⟩⟩
theorem CO (hP:eS S) {d:List UInt8} (h:Fm S u) (hd:u.over=false->u.left.length+d.length+u.number<=281474976710656):Fm S (u.feed S d).2:=by
 unfold Ust.feed;rcases h with ⟨h,_⟩ | ⟨ho,h⟩
 .rw [Oa h];exact jE (.inl h)
 .rw [N7 (by rw [ho];simp)];have k:=h.ok.ok;exact jE (GK hP ⟨⟨⟨k.sp,k.hd,k.ct,k.ot,k.fb,k.bt,k.bl,by show (u.left++d).length+u.number<=_;rw [N9];exact hd ho⟩,h.ok.fb,h.ok.rg,h.ok.pc,h.ok.st⟩,h.bs,h.bw⟩)
theorem end_inv (h:Fm S u):Fm S (u.end_ S).2:=by
 unfold Ust.end_;rcases h with ⟨h,_⟩ | ⟨ho,h⟩
 .rw [Oa h];exact jE (.inl h)
 .rw [N7 (by rw [ho];simp)];exact jE (.inl rfl)
def RepO' (w0:World) (mb sb db:Nat) (w:World) (s:Mst) (q:Ust.Rep×Ust) (r:Ending) (w':World):Prop:=r=.returned (.agg (fJ q.1.out q.1.over q.1.err q.1.status).toArray)/\de w0 mb sb db w s w' q.2.p
theorem jF (u:Ust):u.p.gW=u.fH.2.p:=by
 obtain ⟨left,ahead,ended,count,number,space,held,aE,pc,steps,fI,over,err,status,out,fb,rg,br⟩:=u
 cases over <;> rfl
theorem mfeed_t {d:List UInt8} (hP:Prg w0 lo hi sb σ S) (h:Mac w0 w mb sb db s) (hp:s.p=u.p) (hu:Fm S u) (hd:u.over=false->u.left.length+d.length+u.number<=281474976710656) :
  Calls Tryz.prog 27 #[.pointer (some ⟨mb,0,none⟩),.string (ba d)] w (RepO' w0 mb sb db w s (u.feed S d)):=by
 unfold Ust.feed;have eo:s.over=u.over:=congrArg Pst.over hp;have el:s.left=ba u.left:=congrArg Pst.left hp;rcases hu with ⟨h1,h2⟩ | ⟨h1,h2⟩
 .rw [Oa h1];refine (feed_o h (eo.trans h1)).mono ?_;rintro r w1 ⟨rfl,g⟩;refine ⟨?_,g.nC (by rw [hp];exact jF u)⟩;show Ending.returned (.agg (fJ s.r.out true s.err s.status).toArray)=.returned (.agg (fJ u.out u.over u.err u.status).toArray);rw [show s.r.out=u.out from congrArg Pst.out hp,show s.err=u.err from congrArg Pst.err hp,show s.status=u.status from congrArg Pst.status hp,h1]
 .rw [N7 (by rw [h1];simp)];replace hd:=hd h1;obtain ⟨v,hv⟩:∃ v:Ust,v={ u with left:=u.left++d }:=⟨_,rfl⟩;rw [<-hv];have k:=h2.ok.ok;have iv:gE S v:=by
   rw [hv];exact ⟨⟨⟨k.sp,k.hd,k.ct,k.ot,k.fb,k.bt,k.bl,by show (u.left++d).length+u.number<=_;rw [N9];exact hd⟩,h2.ok.fb,h2.ok.rg,h2.ok.pc,h2.ok.st⟩,h2.bs,h2.bw⟩
  have pv:({ s with left:=s.left++ba d }:Mst).p=v.p:=by
   show ({ s.p with left:=s.left++ba d }:Pst)=_;rw [hp,el,gu,hv]
   rfl
  refine (feed_x (p':=(v.run S).p) h (eo.trans h1) (by rw [el,aw,aw];omega) (fun w1 m1=>run_t hP m1 pv iv) (fun q=>?_)).mono ?_
  .rcases GK hP.ok iv with r | r
   .rw [show (v.run S).p.over=(v.run S).over from rfl,r] at q
    cases q
   .have:=r.ok.ok.lf;show (ba (v.run S).left).size<=_;rw [aw];omega
  .rintro r w1 ⟨rfl,g⟩;exact ⟨rfl,g.nC (jF _)⟩
theorem mend_t (hP:Prg w0 lo hi sb σ S) (h:Mac w0 w mb sb db s) (hp:s.p=u.p) (hu:Fm S u) :
  Calls Tryz.prog 28 #[.pointer (some ⟨mb,0,none⟩)] w (RepO' w0 mb sb db w s (u.end_ S)):=by
 unfold Ust.end_;have eo:s.over=u.over:=congrArg Pst.over hp;rcases hu with ⟨h1,h2⟩ | ⟨h1,h2⟩
 .rw [Oa h1];refine (end_o h (eo.trans h1)).mono ?_;rintro r w1 ⟨rfl,g⟩;refine ⟨?_,g.nC (by rw [hp];exact jF u)⟩;show Ending.returned (.agg (fJ s.r.out true s.err s.status).toArray)=.returned (.agg (fJ u.out u.over u.err u.status).toArray);rw [show s.r.out=u.out from congrArg Pst.out hp,show s.err=u.err from congrArg Pst.err hp,show s.status=u.status from congrArg Pst.status hp,h1]
 .rw [N7 (by rw [h1];simp)];obtain ⟨v,hv⟩:∃ v:Ust,v={ u with ended:=true }:=⟨_,rfl⟩;rw [<-hv];have k:=h2.ok.ok;have iv:gE S v:=by
   rw [hv];exact ⟨⟨⟨k.sp,k.hd,k.ct,k.ot,k.fb,k.bt,k.bl,k.lf⟩,h2.ok.fb,h2.ok.rg,h2.ok.pc,h2.ok.st⟩,h2.bs,h2.bw⟩
  have pv:({ s with ended:=true }:Mst).p=v.p:=by
   show ({ s.p with ended:=true }:Pst)=_;rw [hp,hv]
   rfl
  refine (end_x (p':=(v.run S).p) h (eo.trans h1) (fun w1 m1=>run_t hP m1 pv iv)).mono ?_;rintro r w1 ⟨rfl,g⟩;exact ⟨rfl,g.nC (jF { v.run S with over:=true })⟩
end
end Go.Proofs.YtiahkfoojjpaaaaGreatDoor
