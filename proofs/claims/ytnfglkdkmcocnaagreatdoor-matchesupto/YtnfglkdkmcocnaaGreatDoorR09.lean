import Derived.Test.YtnfglkdkmcocnaaGreatDoorR07
set_option maxRecDepth 100000
set_option maxHeartbeats 16000000
set_option linter.all false
namespace Go.Proofs.YtnfglkdkmcocnaaGreatDoor
open Go.RowKit
def epsC (cd:Nat→In) (text:ByteArray) (pl pc tk:Nat):List (Nat×Nat):=
 if (cd pc).kind=1 then (if pl=0 then [((cd pc).nx,tk)] else [])
 else if (cd pc).kind=2 then (if pl=text.size then [((cd pc).nx,tk)] else [])
 else if (cd pc).kind=3 then [((cd pc).nx,tk)]
 else if (cd pc).kind=4 then [((cd pc).nx,tk),((cd pc).ot,tk)]
 else if (cd pc).kind=5 then (if tk≤(cd pc).dp then [] else [((cd pc).nx,(cd pc).dp)])
 else []
def noteE (cd:Nat→In) (pl pc:Nat) (x:Nat→Int):Nat→Int:=if (cd pc).kind=3 then nu x (cd pc).sl pl else x
def eps (cd:Nat→In) (text:ByteArray) (pl:Nat) (t:Thr):List Thr:=(epsC cd text pl t.pc t.tk).map fun c=>⟨c.1,c.2,noteE cd pl t.pc t.x⟩
def takesB (cd:Nat→In) (text:ByteArray) (pl:Nat) (t:Thr):Bool:=
 decide ((cd t.pc).kind=0) && (if h:pl < text.size then (cd t.pc).m (text[pl]'h).toNat else false)
def behind (cd:Nat→In) (t:Thr):Thr:=⟨(cd t.pc).nx,(cd t.pc).dp,t.x⟩
theorem stepA_eq {cd:Nat→In} {text:ByteArray} {pl:Nat} {t:Thr} (hk:(cd t.pc).kind≤6) (s:Mc) :
  stepA cd text pl t s=((eps cd text pl t).head?,{ s with ahead:=s.ahead++(if takesB cd text pl t=true then [behind cd t] else []),left:=s.left++(eps cd text pl t).tail,fd:=(s.fd || decide ((cd t.pc).kind=6)),best:=if (cd t.pc).kind=6 then nu t.x 1 pl else s.best }):=by
 rcases kind_cases hk with e | e | e | e | e | e | e
 ·by_cases hlt:pl < text.size
  ·by_cases hm:(cd t.pc).m (text[pl]).toNat=true
   ·simp [stepA,eps,epsC,noteE,takesB,behind,e,hlt,hm]
   ·simp [stepA,eps,epsC,noteE,takesB,e,hlt,hm]
  ·simp [stepA,eps,epsC,noteE,takesB,e,hlt]
 ·by_cases h0:pl=0 <;> simp [stepA,eps,epsC,noteE,takesB,e,h0]
 ·by_cases h0:pl=text.size <;> simp [stepA,eps,epsC,noteE,takesB,e,h0]
 ·simp [stepA,eps,epsC,noteE,takesB,e]
 ·simp [stepA,eps,epsC,noteE,takesB,e]
 ·by_cases h0:t.tk≤(cd t.pc).dp <;> simp [stepA,eps,epsC,noteE,takesB,e,h0]
 ·simp [stepA,eps,epsC,noteE,takesB,e]
structure Cok (cd:Nat→In) (n D bg:Nat):Prop where
 ok:∀ a,a < n→(cd a).kind≤6∧(cd a).nx < n∧(cd a).ot < n∧(cd a).sl < 20∧(cd a).dp≤D
 sl:∀ a,a < n→(cd a).kind=3→2≤(cd a).sl
 bg:bg < n
section
variable {cd:Nat→In} {n D bg fr pl:Nat} {text:ByteArray} {t u:Thr} {s s':Mc}
theorem epsC_ok (hc:Cok cd n D bg) {pc tk:Nat} (h1:pc < n) (h2:tk≤D) {c:Nat×Nat} (hu:c∈epsC cd text pl pc tk):c.1 < n∧c.2≤D:=by
 have ok:=hc.ok pc h1
 unfold epsC at hu
 repeat' split at hu
 all_goals simp at hu
 all_goals first
  | (subst hu;exact ⟨ok.2.1,by first | exact h2 | exact ok.2.2.2.2⟩)
  | (rcases hu with rfl | rfl
     ·exact ⟨ok.2.1,h2⟩
     ·exact ⟨ok.2.2.1,h2⟩)
theorem eps_ok (hc:Cok cd n D bg) (ht:okT n D t) (hu:u∈eps cd text pl t):okT n D u:=by
 obtain ⟨c,h1,rfl⟩:=List.mem_map.1 hu
 exact epsC_ok hc ht.1 ht.2 h1
theorem eps_x (hc:Cok cd n D bg) (ht:okT n D t) (hu:u∈eps cd text pl t):u.x 0=t.x 0:=by
 have sl:=hc.sl t.pc ht.1
 obtain ⟨c,_,rfl⟩:=List.mem_map.1 hu
 show noteE cd pl t.pc t.x 0=_
 unfold noteE
 split
 ·have:=sl (by assumption)
  unfold nu;rw [if_neg (by omega)]
 ·rfl
theorem behind_ok (hc:Cok cd n D bg) (ht:okT n D t):okT n D (behind cd t):=⟨(hc.ok t.pc ht.1).2.1,(hc.ok t.pc ht.1).2.2.2.2⟩
def sameC (t u:Thr):Prop:=t.pc=u.pc∧t.tk=u.tk
theorem takes_same {v:Thr} (h:sameC t v):takesB cd text pl t=takesB cd text pl v:=by
 unfold takesB;rw [h.1]
theorem same_of_seen {v:Thr} (ht:okT n D t) (hv:okT n D v) (h:seenAt n D pl t=seenAt n D pl v):sameC t v:=by
 rw [seenAt_eq,seenAt_eq] at h
 have h1:t.pc * (D+1)+t.tk=v.pc * (D+1)+v.tk:=by omega
 have e1:t.pc=v.pc:=by
  have a1:(t.pc * (D+1)+t.tk) / (D+1)=t.pc:=by
   rw [Nat.mul_comm,Nat.mul_add_div (by omega),Nat.div_eq_of_lt (by have:=ht.2;omega)];rfl
  have a2:(v.pc * (D+1)+v.tk) / (D+1)=v.pc:=by
   rw [Nat.mul_comm,Nat.mul_add_div (by omega),Nat.div_eq_of_lt (by have:=hv.2;omega)];rfl
  rw [←a1,←a2,h1]
 refine ⟨e1,?_⟩
 rw [e1] at h1
 omega
end
theorem catch_idle (p q r:Addr) (w:World) :
  CallsD Tryz.prog 110 #[.pointer (some p),.pointer (some q),.pointer (some r)] .returning w fun e u' w'=>e=.returned (.tuple #[])∧u'=.returning∧w'=w:=by
 refine callsD_of_wpS Tryz.func110 rfl fun c₀ cs hu=>?_
 apply wpS_seq
 apply wpS_region
 simp [wpOpsS,go_sem,recoverD,hu,Tryz.ntmps110,Exit.thenS]
 refine wpS_of_wp ?_
 go_wp2
 cases c₀
 simp_all [bodyPostS,results,Tryz.results110]
theorem reading_gen {src:ByteArray} {groups n:Nat} {bg:Int} {deepest:Nat} {xs:List Value} {w:World} {a:Nat} (ha:w.cell? ⟨a,0,none⟩=some (.string src)) (hw:Nm w) (hs:src.size≤100) (hn:0 < n) (hp:Reads src 0 groups n bg deepest xs) :
  Calls Tryz.prog 62 #[.pointer (some ⟨a,0,none⟩)] w fun e w'=>∃ p,e=.returned (.pointer (some ⟨p,0,none⟩))∧PtR w.heap.size w' p n bg groups deepest xs∧Kp [] w w':=by
 go_enter Tryz.func62,Tryz.ntmps62
 go_wp2_with fail
 refine (read_gen (fr:=0) hw (by omega) (by omega) (by omega) hn hp).mono ?_
 rintro e w1 ⟨p,rfl,pt,k1⟩
 go_wp2_with fail
 go_ret
 exact ⟨p,rfl,pt,k1⟩
theorem caught_gen {src:ByteArray} {groups n:Nat} {bg:Int} {deepest:Nat} {xs:List Value} {w:World} {a:Nat} (ha:w.cell? ⟨a,0,none⟩=some (.string src)) (hw:Nm w) (hs:src.size≤100) (hn:0 < n) (hp:Reads src 0 groups n bg deepest xs) :
  Calls Tryz.prog 61 #[.func (.func 62) #[] #[.pointer (some ⟨a,0,none⟩)]] w fun e w'=>∃ p,e=.returned (.tuple #[.pointer (some ⟨p,0,none⟩),.int .i64 0,.int .i64 0])∧PtR w.heap.size w' p n bg groups deepest xs∧Kp [] w w':=by
 have hmf:∀ (fn:Fn) (first cap:Array Value) (w:World),(Instr.makeFunc fn first cap).run Tryz.prog w=.ok (.func fn first cap) w:=fun _ _ _ _=>rfl
 go_enter_defers Tryz.func61,Tryz.ntmps61
 go_wp2_with fail
 obtain ⟨W,hW⟩:∃ W:World,W=((w.alloc (.cells #[.pointer none] 105)).alloc (.cells #[.int .i64 0] 49)).alloc (.cells #[.int .i64 0] 3):=⟨_,rfl⟩
 have kW:Kp [] w W:=by rw [hW];exact (Kp.alloc _ _ _).trans ((Kp.alloc _ _ _).trans (Kp.alloc _ _ _))
 have zW:W.heap.size=w.heap.size+3:=by rw [hW];simp
 have a0:W.cell? ⟨w.heap.size,0,none⟩=some (.pointer none):=by rw [hW];simp [go_sem]
 have a1:W.cell? ⟨w.heap.size+1,0,none⟩=some (.int .i64 0):=by rw [hW];simp [go_sem]
 have a2:W.cell? ⟨w.heap.size+1+1,0,none⟩=some (.int .i64 0):=by rw [hW];simp [go_sem]
 have f0:W.frozen? ⟨w.heap.size,0,none⟩=false:=by rw [hW];simp [go_sem]
 have f1:W.frozen? ⟨w.heap.size+1,0,none⟩=false:=by rw [hW];simp [go_sem]
 have f2:W.frozen? ⟨w.heap.size+1+1,0,none⟩=false:=by rw [hW];simp [go_sem]
 rw [←hW]
 clear hW
 refine (reading_gen ((kW.cell (p:=⟨a,0,none⟩) (World.block_lt_of_cell? _ _ ha) (by simp)).trans ha) (hw.keep kW (by simp)) hs hn hp).mono ?_
 rintro e w1 ⟨p,rfl,pt,k1⟩
 have b0:=(k1.cell (p:=⟨w.heap.size,0,none⟩) (by simp;omega) (by simp)).trans a0
 have b1:=(k1.cell (p:=⟨w.heap.size+1,0,none⟩) (by simp;omega) (by simp)).trans a1
 have b2:=(k1.cell (p:=⟨w.heap.size+1+1,0,none⟩) (by simp;omega) (by simp)).trans a2
 have g0:=(k1.frozen (p:=⟨w.heap.size,0,none⟩) (by simp;omega) (by simp)).trans f0
 have g1:=(k1.frozen (p:=⟨w.heap.size+1,0,none⟩) (by simp;omega) (by simp)).trans f1
 have g2:=(k1.frozen (p:=⟨w.heap.size+1+1,0,none⟩) (by simp;omega) (by simp)).trans f2
 clear a0 a1 a2 f0 f1 f2
 go_wp2_with fail
 refine leaves_cons (f:=110) (args:=#[.pointer (some ⟨w.heap.size,0,none⟩),.pointer (some ⟨w.heap.size+1,0,none⟩),.pointer (some ⟨w.heap.size+1+1,0,none⟩)]) (by simp) (by simp [go_sem]) ?_
 refine (catch_idle _ _ _ _).mono ?_
 rintro e u' w'' ⟨rfl,rfl,rfl⟩
 have K1:Kp [w.heap.size,w.heap.size+1,w.heap.size+1+1] w1 (((w1.setCell ⟨w.heap.size,0,none⟩ (.pointer (some ⟨p,0,none⟩))).setCell ⟨w.heap.size+1,0,none⟩ (.int .i64 0)).setCell ⟨w.heap.size+1+1,0,none⟩ (.int .i64 0)):=
  (Kp.setCell _ _ (by simp)).trans ((Kp.setCell _ _ (by simp)).trans (Kp.setCell _ _ (by simp)))
 have pt2:=pt.keep K1 (by intro x hx;simp at hx;omega)
 have K2:=Kp.own (x:=w.heap.size) (Kp.own (x:=w.heap.size+1) (Kp.own (x:=w.heap.size+1+1) (S:=[w.heap.size+1,w.heap.size]) (((kW.trans k1).mono (by simp)).trans (K1.mono (by simp))) (by omega)) (by omega)) (by omega)
 simp [Leaves,settle,results,Tryz.results61,go_sem,b0,b1,b2]
 exact ⟨pt2.lower (by omega),K2⟩
theorem readPattern_gen {src:ByteArray} {groups n:Nat} {bg:Int} {deepest:Nat} {xs:List Value} {w:World} (hw:Nm w) (hs:src.size≤100) (hn:0 < n) (hp:Reads src 0 groups n bg deepest xs) :
  Calls Tryz.prog 34 #[.string src] w fun e w'=>∃ p,e=.returned (.tuple #[.pointer (some ⟨p,0,none⟩),.int .i64 0,.int .i64 0])∧PtR w.heap.size w' p n bg groups deepest xs∧Kp [] w w':=by
 have hmf:∀ (fn:Fn) (first cap:Array Value) (w:World),(Instr.makeFunc fn first cap).run Tryz.prog w=.ok (.func fn first cap) w:=fun _ _ _ _=>rfl
 have k0:=Kp.alloc [] w (.cells #[.string src] 9)
 go_enter Tryz.func34,Tryz.ntmps34
 go_wp2_with fail
 refine (caught_gen (a:=w.heap.size) (by simp) (hw.keep k0 (by simp)) hs hn hp).mono ?_
 rintro e w1 ⟨p,rfl,pt,k1⟩
 go_wp2_with fail
 go_ret3
 exact ⟨p,rfl,pt.lower k0.size,k0.trans k1⟩
