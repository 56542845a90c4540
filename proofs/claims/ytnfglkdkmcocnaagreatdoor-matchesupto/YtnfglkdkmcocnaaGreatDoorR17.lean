import Derived.Test.YtnfglkdkmcocnaaGreatDoorR12
set_option maxRecDepth 100000
set_option maxHeartbeats 16000000
set_option linter.all false
namespace Go.Proofs.YtnfglkdkmcocnaaGreatDoor
open Go.RowKit
def dig (s:ByteArray) (k:Nat):Bool:=if h:k < s.size then decide (48≤(s[k]).toNat) && decide ((s[k]).toNat≤57) else false
theorem dig_lt {s:ByteArray} {k:Nat} (h:dig s k=true):∃ hk:k < s.size,48≤(s[k]'hk).toNat∧(s[k]'hk).toNat≤57:=by
 unfold dig at h
 split at h
 ·rename_i hk
  simp at h
  exact ⟨hk,h⟩
 ·cases h
theorem digit_any {b:Nat} {src:ByteArray} {k g:Nat} {w:World} (hr:Rd w b src k g) :
  Calls Tryz.prog 253 #[.pointer (some ⟨b,0,none⟩)] w fun e w'=>e=.returned (.bool (dig src k))∧∃ n,w'=w.drewN n:=by
 have c0:=hr.c0
 have c1:=hr.c1
 by_cases hk:k < src.size
 ·have he:((k:Int) == (src.size:Int))=false:=by simp;omega
  have hd:dig src k=(decide (48≤(src[k]).toNat) && decide ((src[k]).toNat≤57)):=by unfold dig;rw [dif_pos hk]
  have HD:=hid hd
  clear hd
  by_cases h1:48≤(src[k]).toNat
  ·have g1:decide (48≤(src[k]).toNat)=true:=by simpa using h1
   have g1':decide ((48:Int)≤((src[k]).toNat:Int))=true:=by simp;omega
   by_cases h2:(src[k]).toNat≤57
   ·have g2':decide (((src[k]).toNat:Int)≤57)=true:=by simp;omega
    have HH:Hid (dig src k=true):=hid (by rw [HD.out];simp [h1,h2])
    go_enter Tryz.func253,Tryz.ntmps253
    go_wp2
    go_quiet ((go_at_call 163;exact ended_q hr _))
    go_wp2
    go_ret
    exact ⟨by rw [HH.out];rfl,_,rfl⟩
   ·have g2':decide (((src[k]).toNat:Int)≤57)=false:=by simp;omega
    have HH:Hid (dig src k=false):=hid (by rw [HD.out];simp [h2])
    go_enter Tryz.func253,Tryz.ntmps253
    go_wp2
    go_quiet ((go_at_call 163;exact ended_q hr _))
    go_wp2
    go_ret
    exact ⟨by rw [HH.out];rfl,_,rfl⟩
  ·have g1:decide (48≤(src[k]).toNat)=false:=by simpa using h1
   have g1':decide ((48:Int)≤((src[k]).toNat:Int))=false:=by simp;omega
   have HH:Hid (dig src k=false):=hid (by rw [HD.out];simp [h1])
   go_enter Tryz.func253,Tryz.ntmps253
   go_wp2
   go_quiet ((go_at_call 163;exact ended_q hr _))
   go_wp2
   go_ret
   exact ⟨by rw [HH.out];rfl,_,rfl⟩
 ·have he:((k:Int) == (src.size:Int))=true:=by have:=hr.le;simp;omega
  have HH:Hid (dig src k=false):=hid (by unfold dig;rw [dif_neg hk])
  go_enter Tryz.func253,Tryz.ntmps253
  go_wp2
  go_quiet ((go_at_call 163;exact ended_q hr _))
  go_wp2
  go_ret
  exact ⟨by rw [HH.out];rfl,_,rfl⟩
theorem digit_r {b:Nat} {src:ByteArray} {k g:Nat} {w:World} (hr:Rd w b src k g) {v:Bool} (h:dig src k=v) :
  Calls Tryz.prog 253 #[.pointer (some ⟨b,0,none⟩)] w fun e w'=>e=.returned (.bool v)∧Rd w' b src k g∧Kp [b] w w':=by
 subst h
 exact (digit_any hr).mono fun e w' ⟨he,n,hw⟩=>⟨he,by rw [hw];exact hr.drewN n,by rw [hw];exact Kp.drewN _ _ _⟩
def NumOk (src:ByteArray) (k l v:Nat):Prop:=
 (∃ h:k < src.size,dig src k=true∧dig src (k+1)=false∧l=k+1∧v=(src[k]'h).toNat - 48) ∨
 (∃ (h:k < src.size) (h2:k+1 < src.size),dig src k=true∧dig src (k+1)=true∧l=k+2∧v=10 * ((src[k]'h).toNat - 48)+((src[k+1]'h2).toNat - 48)∧(src[k]'h).toNat - 48≤20∧v≤20)
theorem wrap_u8_natP (k:Nat) (h:k < 256):IntKind.u8.wrap (k:Int)=(k:Int):=by rw [IntKind.wrap_u8];omega
theorem number_any {b:Nat} {src:ByteArray} {k l v g:Nat} {w:World} (hr:Rd w b src k g) (h:NumOk src k l v) :
  Calls Tryz.prog 284 #[.pointer (some ⟨b,0,none⟩)] w fun e w'=>e=.returned (.int .i64 v)∧Rd w' b src l g∧Kp [b] w w':=by
 have hsm:=hr.small
 rcases h with ⟨hk,d1,d2,hl,hv⟩ | ⟨hk,hk2,d1,d2,hl,hv,hv1,hv2⟩
 ·obtain ⟨_,q1,q2⟩:=dig_lt d1
  obtain ⟨v1,hv1⟩:∃ v1:Nat,v1=(src[k]).toNat - 48:=⟨_,rfl⟩
  have hsub:((src[k]).toNat:Int) - 48=(v1:Int):=by omega
  have w1:=wrap_u8_natP v1 (by omega)
  have w2:=wrap_i64_nat v1 (by omega)
  have hcmp:¬ (20:Int) < v1:=by omega
  obtain ⟨k1,hk1⟩:∃ k1:Nat,k1=k+1:=⟨_,rfl⟩
  have hsum:(k:Int)+1=(k1:Int):=by omega
  have wk:=wrap_i64_nat k1 (by omega)
  have HV:=hid (And.intro hl (And.intro hv (And.intro hv1 hk1)))
  rw [←hk1] at d2
  clear hl hv hv1 hk1 q1 q2
  go_enter Tryz.func284,Tryz.ntmps284
  go_wp2_with fail
  refine (digit_r hr d1).mono ?_
  rintro e u1 ⟨rfl,r1,s1⟩
  go_wp2_with fail
  refine wp_loop_rounds 2 ?_
  rw [rounds_succ]
  go_wp2_with fail
  refine (digit_r r1 d1).mono ?_
  rintro e u2 ⟨rfl,r2,s2⟩
  have c0:=r2.c0
  have c1:=r2.c1
  have f1:=r2.free 1
  go_wp2_with fail
  go_quiet (fail)
  have c0':(u2.drewN nq).cell? ⟨b,0,none⟩=some (.string src):=c0
  have r3:=((r2.drewN nq).step hk)
  rw [hsum,show k+1=k1 from HV.out.2.2.2.symm] at r3
  have s3:Kp [b] w ((u2.drewN nq).setCell ⟨b,1,none⟩ (.int .i64 (k1:Int))):=s1.trans (s2.trans ((Kp.drewN _ _ _).trans (Kp.setCell _ _ (by simp))))
  have R3:=hid (And.intro r3 s3)
  clear r3 s3 r1 s1 s2
  go_wp2_with fail
  rw [rounds_succ]
  go_wp2_with fail
  refine (digit_r R3.out.1 d2).mono ?_
  rintro e u4 ⟨rfl,r4,s4⟩
  clear c0 c1 f1 c0' r2
  go_wp2_with fail
  go_ret
  obtain ⟨a1,a2,a3,a4⟩:=HV.out
  refine ⟨by rw [a2,←a3];rfl,by rw [a1,←a4];exact r4,R3.out.2.trans s4⟩
 ·obtain ⟨_,q1,q2⟩:=dig_lt d1
  obtain ⟨_,q3,q4⟩:=dig_lt d2
  obtain ⟨v1,hw1⟩:∃ v1:Nat,v1=(src[k]).toNat - 48:=⟨_,rfl⟩
  have hsub:((src[k]).toNat:Int) - 48=(v1:Int):=by omega
  have w1:=wrap_u8_natP v1 (by omega)
  have w2:=wrap_i64_nat v1 (by omega)
  have hcmp:¬ (20:Int) < v1:=by omega
  obtain ⟨k1,hk1⟩:∃ k1:Nat,k1=k+1:=⟨_,rfl⟩
  have hsum:(k:Int)+1=(k1:Int):=by omega
  have wk:=wrap_i64_nat k1 (by omega)
  obtain ⟨v2,hw2⟩:∃ v2:Nat,v2=(src[k+1]).toNat - 48:=⟨_,rfl⟩
  obtain ⟨t1,ht1⟩:∃ t1:Nat,t1=10 * v1:=⟨_,rfl⟩
  have hmul:(10:Int) * (v1:Int)=(t1:Int):=by omega
  have w3:=wrap_i64_nat t1 (by omega)
  have hk1s:k1 < src.size:=by omega
  have e12:(src[k1]'hk1s)=src[k+1]:=by congr 1
  have hsub2:((src[k1]'hk1s).toNat:Int) - 48=(v2:Int):=by rw [e12];omega
  have w4:=wrap_u8_natP v2 (by omega)
  have hadd:(t1:Int)+(v2:Int)=(v:Int):=by omega
  have w5:=wrap_i64_nat v (by omega)
  have hcmp2:¬ (20:Int) < v:=by omega
  obtain ⟨k2,hk2'⟩:∃ k2:Nat,k2=k1+1:=⟨_,rfl⟩
  have hsum2:(k1:Int)+1=(k2:Int):=by omega
  have wk2:=wrap_i64_nat k2 (by omega)
  have w6:=wrap_i64_nat v2 (by omega)
  rw [←hk1] at d2
  have HV:=hid (And.intro (show l=k2 by omega) (And.intro hk1 hk2'))
  clear hl hv hw1 hw2 ht1 hk1 hk2' e12 q1 q2 q3 q4 hv1 hv2
  go_enter Tryz.func284,Tryz.ntmps284
  go_wp2_with fail
  refine (digit_r hr d1).mono ?_
  rintro e u1 ⟨rfl,r1,s1⟩
  go_wp2_with fail
  refine wp_loop_rounds 3 ?_
  rw [rounds_succ]
  go_wp2_with fail
  refine (digit_r r1 d1).mono ?_
  rintro e u2 ⟨rfl,r2,s2⟩
  have c0:=r2.c0
  have c1:=r2.c1
  have f1:=r2.free 1
  go_wp2_with fail
  go_quiet (fail)
  have r3:=((r2.drewN nq).step hk)
  rw [hsum,show k+1=k1 from HV.out.2.1.symm] at r3
  have s3:Kp [b] w ((u2.drewN nq).setCell ⟨b,1,none⟩ (.int .i64 (k1:Int))):=s1.trans (s2.trans ((Kp.drewN _ _ _).trans (Kp.setCell _ _ (by simp))))
  have R3:=hid (And.intro r3 s3)
  clear r3 s3 r1 s1 s2
  go_wp2_with fail
  rw [rounds_succ]
  go_wp2_with fail
  refine (digit_r R3.out.1 d2).mono ?_
  rintro e u4 ⟨rfl,r4,s4⟩
  clear c0 c1 f1 r2
  have c0:=r4.c0
  have c1:=r4.c1
  have f1:=r4.free 1
  have S4:=hid (R3.out.2.trans s4)
  clear s4
  go_wp2_with fail
  go_quiet (fail)
  have r5:=((r4.drewN nq).step hk1s)
  rw [hsum2,show k1+1=k2 from HV.out.2.2.symm] at r5
  have s5:Kp [b] w ((u4.drewN nq).setCell ⟨b,1,none⟩ (.int .i64 (k2:Int))):=S4.out.trans ((Kp.drewN _ _ _).trans (Kp.setCell _ _ (by simp)))
  have R5:=hid (And.intro r5 s5)
  clear r5 s5
  go_wp2_with fail
  rw [rounds_succ]
  go_wp2_with fail
  go_ret
  exact ⟨rfl,by rw [HV.out.1];exact R5.out.1,R5.out.2⟩
def UpOk (src:ByteArray) (k l least:Nat):Option Nat→Prop
 | some m=>saw src k 125=false∧NumOk src k l m∧least≤m
 | none=>saw src k 125=true∧l=k
theorem upper_any {b:Nat} {src:ByteArray} {k l least g:Nat} {most:Option Nat} {w:World} (hr:Rd w b src k g) (h:UpOk src k l least most) :
  Calls Tryz.prog 285 #[.pointer (some ⟨b,0,none⟩),.int .i64 least] w fun e w'=>e=.returned (.int .i64 (mostV most))∧Rd w' b src l g∧Kp [b] w w':=by
 cases most with
 | none=>
  obtain ⟨h1,h2⟩:=h
  subst h2
  go_enter Tryz.func285,Tryz.ntmps285
  go_wp2_with fail
  refine (sees_r 125 hr h1).mono ?_
  rintro e u1 ⟨rfl,r1,s1⟩
  go_wp2_with fail
  go_ret
  exact ⟨rfl,r1,s1⟩
 | some m=>
  obtain ⟨h1,h2,h3⟩:=h
  have hcmp:¬ (m:Int) < (least:Int):=by omega
  have hcmp':decide ((m:Int) < (least:Int))=false:=by simpa using h3
  have hcmp2:decide (m < least)=false:=by simpa using h3
  go_enter Tryz.func285,Tryz.ntmps285
  go_wp2_with fail
  refine (sees_r 125 hr h1).mono ?_
  rintro e u1 ⟨rfl,r1,s1⟩
  go_wp2_with fail
  refine (number_any r1 h2).mono ?_
  rintro e u2 ⟨rfl,r2,s2⟩
  go_wp2_with fail
  go_ret
  exact ⟨rfl,r2,s1.trans s2⟩
def BoundsOk (src:ByteArray) (k l least:Nat) (most:Option Nat):Prop:=∃ k1,NumOk src k k1 least ∧
 ((saw src k1 44=false∧most=some least∧saw src k1 125=true∧l=k1+1)∨(saw src k1 44=true∧∃ k2,UpOk src (k1+1) k2 least most∧saw src k2 125=true∧l=k2+1))
theorem bounds_any {b:Nat} {src:ByteArray} {k l least g:Nat} {most:Option Nat} {w:World} (hr:Rd w b src k g) (h:BoundsOk src k l least most) :
  Calls Tryz.prog 276 #[.pointer (some ⟨b,0,none⟩)] w fun e w'=>e=.returned (.tuple #[.int .i64 least,.int .i64 (mostV most)])∧Rd w' b src l g∧Kp [b] w w':=by
 obtain ⟨k1,hn,⟨h1,rfl,h2,rfl⟩ | ⟨h1,k2,hu,h2,rfl⟩⟩:=h
 ·go_enter Tryz.func276,Tryz.ntmps276
  go_wp2_with fail
  refine (number_any hr hn).mono ?_
  rintro e u1 ⟨rfl,r1,s1⟩
  go_wp2_with fail
  refine (take_no 44 r1 h1).mono ?_
  rintro e u2 ⟨rfl,r2,s2⟩
  go_wp2_with fail
  refine (expect_yes 125 r2 h2).mono ?_
  rintro e u3 ⟨rfl,r3,s3⟩
  go_wp2_with fail
  go_ret2
  exact ⟨rfl,r3,s1.trans (s2.trans s3)⟩
 ·go_enter Tryz.func276,Tryz.ntmps276
  go_wp2_with fail
  refine (number_any hr hn).mono ?_
  rintro e u1 ⟨rfl,r1,s1⟩
  go_wp2_with fail
  refine (take_yes 44 r1 h1).mono ?_
  rintro e u2 ⟨rfl,r2,s2⟩
  go_wp2_with fail
  refine (upper_any r2 hu).mono ?_
  rintro e u3 ⟨rfl,r3,s3⟩
  go_wp2_with fail
  refine (expect_yes 125 r3 h2).mono ?_
  rintro e u4 ⟨rfl,r4,s4⟩
  go_wp2_with fail
  go_ret2
  exact ⟨rfl,r4,s1.trans (s2.trans (s3.trans s4))⟩
def It.pi (i:It):Pi:=⟨i.sz,i.len,i.dd,i.em⟩
def Pi.it (p:Pi):It:=⟨0,.bool false,p.sz,p.len,p.dd,p.em⟩
def piOne (m:Nat→Bool):Pi:=(oneIt m).pi
def piEdge (k:Nat):Pi:=(edgeIt k).pi
def piGroup (g:Nat) (p:Pi):Pi:=(groupIt g p.it).pi
def piRow (l:List Pi):Pi:=(rowIt (.bool false) (l.map Pi.it)).pi
def piBranches (l:List Pi):Pi:=(branchesIt (.bool false) (l.map Pi.it)).pi
def piRep (p:Pi) (least:Nat) (most:Option Nat):Pi:=(repIt p.it least most).pi
theorem emRow_pi:∀ l:List It,emRow (l.map fun i=>i.pi.it)=emRow l
 | []=>rfl
 | p::l=>by
  funext n next d
  show (_,_)=(_,_)
  rw [emRow_pi l]
  rfl
theorem emMoreB_pi:∀ (l:List It) (b:Nat),emMoreB (l.map fun i=>i.pi.it) b=emMoreB l b
 | [],_=>rfl
 | p::l,b=>by
  funext n next d
  show (_,_)=(_,_)
  rw [emMoreB_pi l]
  rfl
theorem emBranches_pi:∀ l:List It,emBranches (l.map fun i=>i.pi.it)=emBranches l
 | []=>rfl
 | p::l=>by
  funext n next d
  show (_,_)=(_,_)
  rw [emMoreB_pi l]
  rfl
theorem szL_pi (l:List It):szL (l.map fun i=>i.pi.it)=szL l:=by unfold szL;rw [List.map_map];rfl
theorem lenL_pi (l:List It):lenL (l.map fun i=>i.pi.it)=lenL l:=by unfold lenL;rw [List.map_map];rfl
theorem ddL_pi:∀ l:List It,ddL (l.map fun i=>i.pi.it)=ddL l
 | []=>rfl
 | p::l=>by show max p.dd _=max p.dd _;rw [ddL_pi l]
theorem pi_row (v:Value) (l:List It):(rowIt v l).pi=piRow (l.map It.pi):=by
 unfold piRow rowIt It.pi
 simp only [List.map_map]
 rw [show (Pi.it ∘ fun i:It=>(⟨i.sz,i.len,i.dd,i.em⟩:Pi))=fun i=>i.pi.it from rfl,szL_pi,lenL_pi,ddL_pi,←List.map_reverse,emRow_pi]
theorem pi_branches (v:Value) (l:List It):(branchesIt v l).pi=piBranches (l.map It.pi):=by
 unfold piBranches branchesIt It.pi
 simp only [List.map_map,List.length_map]
 rw [show (Pi.it ∘ fun i:It=>(⟨i.sz,i.len,i.dd,i.em⟩:Pi))=fun i=>i.pi.it from rfl,szL_pi,lenL_pi,ddL_pi,←List.map_reverse,emBranches_pi]
def RetN (b:Nat) (src:ByteArray) (l g:Nat) (p:Pi) (w:World) (e:Ending) (w':World):Prop:=∃ i:It,e=.returned i.v∧i.pi=p∧Nd w.heap.size w'.heap.size w' i∧Rd w' b src l g∧Kp [b] w w'
def AtomN (src:ByteArray) (k l g g':Nat) (p:Pi):Prop:=∀ (w:World) (b:Nat),b≠4→Rd w b src k g→Nm w→Calls Tryz.prog 265 #[.pointer (some ⟨b,0,none⟩)] w (RetN b src l g' p w)
def PieceN (src:ByteArray) (k l g g':Nat) (p:Pi):Prop:=∀ (w:World) (b:Nat),b≠4→Rd w b src k g→Nm w→Calls Tryz.prog 242 #[.pointer (some ⟨b,0,none⟩)] w (RetN b src l g' p w)
def BranchN (src:ByteArray) (k l g g':Nat) (p:Pi):Prop:=∀ (w:World) (b:Nat),b≠4→Rd w b src k g→Nm w→Calls Tryz.prog 207 #[.pointer (some ⟨b,0,none⟩)] w (RetN b src l g' p w)
def BranchesN (src:ByteArray) (k l g g':Nat) (p:Pi):Prop:=∀ (w:World) (b:Nat),b≠4→Rd w b src k g→Nm w→Calls Tryz.prog 162 #[.pointer (some ⟨b,0,none⟩)] w fun e w'=>∃ i:It,e=.returned i.v∧i.tv=302∧i.pi=p∧Nd w.heap.size w'.heap.size w' i∧Rd w' b src l g'∧Kp [b] w w'
def RepN (src:ByteArray) (k l g:Nat) (f:Pi→Pi):Prop:=∀ (w:World) (b lo hi:Nat) (i:It),Nd lo hi w i→b < lo→hi≤w.heap.size→Rd w b src k g→Calls Tryz.prog 264 #[.pointer (some ⟨b,0,none⟩),i.v] w fun e w'=>∃ j:It,e=.returned j.v∧j.pi=f i.pi∧Nd lo hi w' j∧Rd w' b src l g∧Kp [b] w w'
theorem Nd.kept {lo hi b:Nat} {w w':World} {i:It} (h:Nd lo hi w i) (hb:b < lo) (hh:hi≤w.heap.size) (k:Kp [b] w w'):Nd lo hi w' i:=
 h.keep fun q h1 h2=>k.block q (Nat.lt_of_lt_of_le h2 hh) (by simp;omega)
theorem atomN_byte {src:ByteArray} {k l g x:Nat} (hx:x < 256) (h40:saw src k 40=false) (h46:saw src k 46=false) (h91:saw src k 91=false) (hb:∀ b,ByteOk b src special escaped k l g x):AtomN src k l g g (piOne (span noBytes x (x+1))):=by
 intro w b hb0 hr hw
 refine (atom_byte hr hx h40 h46 h91 (hb b)).mono ?_
 rintro e w1 ⟨rfl,r1,k1⟩
 exact ⟨oneIt (span noBytes x (x+1)),rfl,rfl,nd_one _ _ _ _,r1,k1⟩
theorem repN_no {src:ByteArray} {k g:Nat} (h1:saw src k 42=false) (h2:saw src k 43=false) (h3:saw src k 63=false) (h4:saw src k 123=false):RepN src k k g id:=by
 intro w b lo hi i nd hb hh hr
 refine (repeated_no i.v hr h1 h2 h3 h4).mono ?_
 rintro e w1 ⟨rfl,r1,k1⟩
 exact ⟨i,rfl,rfl,nd.kept hb hh k1,r1,k1⟩
theorem repN_plus {src:ByteArray} {k g:Nat} (h1:saw src k 42=false) (h2:saw src k 43=true):RepN src k (k+1) g (fun p=>piRep p 1 none):=by
 intro w b lo hi i nd hbl hhw hr
 have HI:=hid nd
 clear nd
 show Calls Tryz.prog 264 #[.pointer (some ⟨b,0,none⟩),.iface i.tv i.xv] w _
 go_enter Tryz.func264,Tryz.ntmps264
 go_wp2_with fail
 refine (take_no 42 hr h1).mono ?_
 rintro e w1 ⟨rfl,r1,k1⟩
 go_wp2_with fail
 refine (take_yes 43 r1 h2).mono ?_
 rintro e w2 ⟨rfl,r2,k2⟩
 go_wp2_with fail
 go_ret
 refine ⟨repIt i 1 none,?_,rfl,(nd_rep HI.out (show okB 1 none by show (1:Nat)≤20;omega)).kept hbl hhw (k1.trans k2),r2,k1.trans k2⟩
 rfl
theorem repN_brace {src:ByteArray} {k l g least:Nat} {most:Option Nat} (h1:saw src k 42=false) (h2:saw src k 43=false) (h3:saw src k 63=false) (h4:saw src k 123=true) (hb:BoundsOk src (k+1) l least most) (hok:okB least most):RepN src k l g (fun p=>piRep p least most):=by
 intro w b lo hi i nd hbl hhw hr
 have HI:=hid nd
 clear nd
 show Calls Tryz.prog 264 #[.pointer (some ⟨b,0,none⟩),.iface i.tv i.xv] w _
 go_enter Tryz.func264,Tryz.ntmps264
 go_wp2_with fail
 refine (take_no 42 hr h1).mono ?_
 rintro e w1 ⟨rfl,r1,k1⟩
 go_wp2_with fail
 refine (take_no 43 r1 h2).mono ?_
 rintro e w2 ⟨rfl,r2,k2⟩
 go_wp2_with fail
 refine (take_no 63 r2 h3).mono ?_
 rintro e w3 ⟨rfl,r3,k3⟩
 go_wp2_with fail
 refine (take_yes 123 r3 h4).mono ?_
 rintro e w4 ⟨rfl,r4,k4⟩
 go_wp2_with fail
 refine (bounds_any r4 hb).mono ?_
 rintro e w5 ⟨rfl,r5,k5⟩
 have K5:=k1.trans (k2.trans (k3.trans (k4.trans k5)))
 clear k1 k2 k3 k4 k5 r1 r2 r3 r4
 go_wp2_with fail
 go_ret
 refine ⟨repIt i least most,?_,rfl,(nd_rep HI.out hok).kept hbl hhw K5,r5,K5⟩
 rfl
theorem pieceN_atom {src:ByteArray} {k k1 l g g':Nat} {p:Pi} {f:Pi→Pi} (h94:saw src k 94=false) (h36:saw src k 36=false) (ha:AtomN src k k1 g g' p) (hf:RepN src k1 l g' f):PieceN src k l g g' (f p):=by
 intro w b hb0 hr hw
 have HB:Hid (4∉[b]):=hid (by simpa using Ne.symm hb0)
 go_enter Tryz.func242,Tryz.ntmps242
 go_wp2_with fail
 refine (take_no 94 hr h94).mono ?_
 rintro e w1 ⟨rfl,r1,k1'⟩
 go_wp2_with fail
 refine (take_no 36 r1 h36).mono ?_
 rintro e w2 ⟨rfl,r2,k2⟩
 go_wp2_with fail
 refine (ha w2 b hb0 r2 ((hw.keep k1' HB.out).keep k2 HB.out)).mono ?_
 rintro e w3 ⟨i,rfl,hi,nd,r3,k3⟩
 have z12:=(k1'.trans k2).size
 have C:=hid (hf w3 b _ _ i nd (Nat.lt_of_lt_of_le hr.lt z12) (Nat.le_refl _) r3)
 clear nd r3
 rw [hi] at C
 go_wp2_with fail
 refine C.out.mono ?_
 rintro e w4 ⟨j,rfl,hj,nd4,r4,k4⟩
 have N4:=hid nd4
 clear nd4 C
 go_wp2_with fail
 go_ret
 exact ⟨j,rfl,hj,N4.out.wide z12 k4.size,r4,k1'.trans (k2.trans (k3.trans k4))⟩
theorem pieceN_begin {src:ByteArray} {k g:Nat} (h94:saw src k 94=true):PieceN src k (k+1) g g (piEdge 1):=by
 intro w b hb0 hr hw
 refine (piece_begin h94 w hr hw).mono ?_
 rintro e w1 ⟨rfl,r1,k1⟩
 exact ⟨edgeIt 1,rfl,rfl,nd_edge _ _ _ _,r1,k1⟩
theorem pieceN_end {src:ByteArray} {k g:Nat} (h94:saw src k 94=false) (h36:saw src k 36=true):PieceN src k (k+1) g g (piEdge 2):=by
 intro w b hb0 hr hw
 refine (piece_end h94 h36 w hr hw).mono ?_
 rintro e w1 ⟨rfl,r1,k1⟩
 exact ⟨edgeIt 2,rfl,rfl,nd_edge _ _ _ _,r1,k1⟩
def RowN (src:ByteArray) (l g':Nat):Nat→Nat→List Pi→Prop
 | k,g,[]=>l=k∧g'=g∧(k=src.size∨(k < src.size∧saw src k 124=true)∨(k < src.size∧saw src k 124=false∧saw src k 41=true))
 | k,g,p::ps=>k < src.size∧saw src k 124=false∧saw src k 41=false∧∃ k1 g1,k < k1∧PieceN src k k1 g g1 p∧RowN src l g' k1 g1 ps
theorem branch_ends {b l g:Nat} {src:ByteArray} {ps:List Pi} {w wr w1:World} {v:Value} {done:List It} (hbl:b < w.heap.size) (own:wr.ownsRow w.heap.size 220 1 v done.length (done.map It.v)) (nds:∀ i∈done,∃ lo hi,w.heap.size≤lo∧hi≤wr.heap.size∧(∀ g,v.ownBlock=some g→¬ (lo≤g∧g < hi))∧Nd lo hi wr i) (hps:ps=done.map It.pi) (hlen:done.length≤200) (kp:Kp [b] w wr) (k1:Kp [b] wr w1) (r1:Rd w1 b src l g) :
  RetN b src l g (piRow ps) w (.returned (.iface 320 v)) w1:=by
 have ow1:=ownsRow_keep own k1 (fun x hx=>by rw [List.mem_singleton.1 hx];exact hbl)
 refine ⟨rowIt v done,rfl,by rw [pi_row,hps],nd_row ow1 (fun r hr=>ow1.lt r hr) (fun i hi=>?_) hlen,r1,kp.trans k1⟩
 obtain ⟨lo,hi',h1,h2,_,nd⟩:=nds i hi
 exact (nd.kept (Nat.lt_of_lt_of_le hbl h1) h2 k1).wide h1 (Nat.le_trans h2 k1.size)
theorem wpList_append2 {P:Program} {ops:Array Oper} {rest:List Oper} {o:Oper} {a:Act} {w:World} {Q:Exit→Act→World→Prop} (hgd:o.guard=none) (s x:Operand) (t:TypeId) (hop:o.op=Op.call { callee:=Callee.builtin Builtin.append,args:=#[s,x],argTypes:=#[t,t] })
  (base:Nat) (e:TypeId) (i:TypeInfo) (z:Value) (size bytes:Nat) (h1:P.underlying t=some (.slice e)) (h2:P.info? e=some i) (h3:i.zero=some z) (h4:i.size=size) (h5:i.bytes=bytes) (h6:z.cells.size=size) (h7:0 < size)
  (v:Value) (n:Nat) (xs:List Value) (hs:a.eval s=v) (hown:w.ownsRow base e size v n xs)
  (ad:Addr) (m c:Nat) (news:List Value) (hx:a.eval x=.slice (some ad) m c) (hn:news.length=m * size) (hc:∀ j u,news[j]? = some u→w.cell? (ad.add j)=some u) (h1c:∀ u∈news,u.oneCell'=true)
  (b1:n+m≤maxLen) (b2:(n+m) * bytes≤140737488355328) (hbase:base≤w.heap.size) (hm:0 < m)
  (h:∀ g cap w',w'.ownsRow base e size (.slice (some ⟨g,0,none⟩) (n+m) cap) (n+m) (xs++news)→w.grownBy w' v.ownBlock→(v.ownBlock=some g∨w.heap.size≤g)→wpList P ops Q rest (a.put o.dst (.slice (some ⟨g,0,none⟩) (n+m) cap)) w'):wpList P ops Q (o::rest) a w:=
 wpList_plain hgd fun _ hK=>by
  obtain ⟨g,cap,w',hrun,r1,r2,r3⟩:=run_append2 (P:=P) (ty:=o.type) h1 h2 h3 h4 h5 h6 h7 hown hn hc h1c b1 b2 hbase hm (c:=c)
  unfold Oper.wp
  simp [execOp,hop,resolve,invoke,builtin,hs,hx,hrun,Result.andThen]
  exact hK _ _ (h g cap w' r1 r2 r3)
def Item (lo0:Nat) (w:World) (v:Value) (i:It):Prop:=∃ lo hi,lo0≤lo∧hi≤w.heap.size∧(∀ g,v.ownBlock=some g→¬ (lo≤g∧g < hi))∧Nd lo hi w i
theorem row_more {b gg cc n dl:Nat} {xs:List Value} {w wr w3 w4 w5:World} {v:Value} {done:List It} {i:It} {o:Obj} (hbl:b < w.heap.size) (nds:∀ j∈done,Item w.heap.size wr v j) (ow:wr.ownsRow w.heap.size 220 1 v dl xs) (k:Kp [b] wr w4) (nd:Nd w3.heap.size w4.heap.size w4 i) (z03:w.heap.size≤w3.heap.size) (zr3:wr.heap.size≤w3.heap.size)
  (hg:(w4.alloc o).grownBy w5 v.ownBlock) (hor:v.ownBlock=some gg∨w4.heap.size+1≤gg):∀ j∈done++[i],Item w.heap.size w5 (.slice (some ⟨gg,0,none⟩) n cc) j:=by
 have zo:(w4.alloc o).heap.size=w4.heap.size+1:=by simp
 have z5:w4.heap.size≤w5.heap.size:=by have:=hg.size;omega
 have bk:∀ q,q < w4.heap.size→v.ownBlock≠some q→w5.heap[q]? = w4.heap[q]?:=fun q hq hn=>(hg.block q (by omega) (fun e=>hn e.symm)).trans ((Kp.alloc [] w4 o).block q hq (by simp))
 have og:∀ g,(Value.slice (some ⟨gg,0,none⟩) n cc).ownBlock=some g→g=gg:=fun g e=>by simpa [Value.ownBlock] using e.symm
 intro j hj
 rcases List.mem_append.1 hj with hj | hj
 ·obtain ⟨lo,hi,h1,h2,h3,h4⟩:=nds j hj
  have hk:=k.size
  refine ⟨lo,hi,h1,by omega,fun g e=>?_,(h4.kept (Nat.lt_of_lt_of_le hbl h1) h2 k).keep fun q q1 q2=>bk q (by omega) (fun e=>h3 q e ⟨q1,q2⟩)⟩
  rw [og g e]
  rcases hor with r | r
  ·exact h3 gg r
  ·rintro ⟨_,q⟩;omega
 ·rw [List.mem_singleton.1 hj]
  refine ⟨w3.heap.size,w4.heap.size,z03,z5,fun g e=>?_,nd.keep fun q q1 q2=>bk q q2 (fun e=>by have:=(ow.lt q e).2;omega)⟩
  rw [og g e]
  rcases hor with r | r
  ·have:=(ow.lt gg r).2
   rintro ⟨q,_⟩;omega
  ·rintro ⟨_,q⟩;omega
theorem branchN_row {src:ByteArray} {k l g g':Nat} {ps:List Pi} (hp:RowN src l g' k g ps) (hlen:ps.length≤200):BranchN src k l g g' (piRow ps):=by
 intro w b hb0 hr hw
 have HB:Hid (4∉[b]):=hid (by simpa using Ne.symm hb0)
 have hbl:=hr.lt
 obtain ⟨i0,hi,hz0,hz1,hz2⟩:=info_parts Tryz.infoNode
 have HI:=hid (And.intro hi (And.intro hz0 (And.intro hz1 hz2)))
 clear hi hz0 hz1 hz2
 have HP:=hid hp
 have HR:=hid hr
 clear hp hr
 go_enter Tryz.func207,Tryz.ntmps207
 go_wp2_with fail
 go_loopw [3] (fun v wr=>∃ (k' g1:Nat) (done:List It) (rest:List Pi),ps=done.map It.pi++rest∧wr.ownsRow w.heap.size 220 1 v done.length (done.map It.v)∧(∀ i∈done,Item w.heap.size wr v i)∧Rd wr b src k' g1∧Kp [b] w wr∧RowN src l g' k' g1 rest) (fun _ wr=>3000 - atOf wr b)
 case atStart=>exact ⟨k,g,[],ps,rfl,World.ownsRow_nil _ _ _ _,fun i hi=>(by cases hi),HR.out,Kp.refl _ _,HP.out⟩
 case round=>
  obtain ⟨k',g1,done,rest,hvs,own,nds,rd,kp,rok⟩:=hrel
  have OWN:=hid (And.intro own nds)
  have hsm:=rd.small
  cases rest with
  | nil=>
   obtain ⟨rfl,rfl,hend⟩:=rok
   have HV:=hid hvs
   have fin:=hid (fun (w1:World) (k1:Kp [b] wr w1) (r1:Rd w1 b src l g')=>branch_ends (ps:=ps) hbl OWN.out.1 OWN.out.2 (by rw [HV.out,List.append_nil]) (by have:=hlen;rw [HV.out] at this;simpa using this) kp k1 r1)
   clear hvs own nds HR HP
   rcases hend with he | ⟨hlt,h124⟩ | ⟨hlt,h124,h41⟩
   ·have he2:((l:Int) == (src.size:Int))=true:=by simp;omega
    have HK:=hid he
    clear he
    go_wp2_with fail
    refine (ended_r rd he2).mono ?_
    rintro e w1 ⟨rfl,r1,k1⟩
    go_wp2_with fail
    go_ret
    exact fin.out _ k1 r1
   ·have he2:((l:Int) == (src.size:Int))=false:=by simp;omega
    go_wp2_with fail
    refine (ended_r rd he2).mono ?_
    rintro e w1 ⟨rfl,r1,k1⟩
    go_wp2_with fail
    refine (sees_r 124 r1 h124).mono ?_
    rintro e w2 ⟨rfl,r2,k2⟩
    go_wp2_with fail
    go_ret
    exact fin.out _ (k1.trans k2) r2
   ·have he2:((l:Int) == (src.size:Int))=false:=by simp;omega
    go_wp2_with fail
    refine (ended_r rd he2).mono ?_
    rintro e w1 ⟨rfl,r1,k1⟩
    go_wp2_with fail
    refine (sees_r 124 r1 h124).mono ?_
    rintro e w2 ⟨rfl,r2,k2⟩
    go_wp2_with fail
    refine (sees_r 41 r2 h41).mono ?_
    rintro e w3 ⟨rfl,r3,k3⟩
    go_wp2_with fail
    go_ret
    exact fin.out _ (k1.trans (k2.trans k3)) r3
  | cons p rest=>
   obtain ⟨hk,h124,h41,k1',g1',hkl,pok,rok'⟩:=rok
   have he1:((k':Int) == (src.size:Int))=false:=by simp;omega
   have HV:=hid (And.intro hvs (And.intro pok rok'))
   have hdl:done.length≤1000:=by
    rw [hvs,List.length_append,List.length_map] at hlen
    omega
   clear hvs pok rok' own nds HR HP
   go_wp2_with fail
   refine (ended_r rd he1).mono ?_
   rintro e w1 ⟨rfl,r1,k1⟩
   go_wp2_with fail
   refine (sees_r 124 r1 h124).mono ?_
   rintro e w2 ⟨rfl,r2,k2⟩
   go_wp2_with fail
   refine (sees_r 41 r2 h41).mono ?_
   rintro e w3 ⟨rfl,r3,k3⟩
   have k3':Kp [b] wr w3:=k1.trans (k2.trans k3)
   have hw3:=hw.keep (kp.trans k3') HB.out
   clear r1 r2
   go_wp2_with fail
   refine (HV.out.2.1 w3 b hb0 r3 hw3).mono ?_
   rintro e w4 ⟨i,rfl,hpi,nd4,r4,k4⟩
   have kw4:Kp [b] w w4:=kp.trans (k3'.trans k4)
   have O4:=hid (ownsRow_keep OWN.out.1 (k3'.trans k4) (fun x hx=>by rw [List.mem_singleton.1 hx];exact hbl))
   have hz4:=kw4.size
   have N4:=hid (And.intro nd4 (And.intro hpi (And.intro (kp.trans k3').size k3'.size)))
   have K34:=hid (k3'.trans k4)
   clear r3 hw3 nd4 hpi
   obtain ⟨tv,htv⟩:∃ tv,i.tv=tv:=⟨_,rfl⟩
   obtain ⟨xv,hxv⟩:∃ xv,i.xv=xv:=⟨_,rfl⟩
   have hiv:i.v=.iface tv xv:=by unfold It.v;rw [htv,hxv]
   rw [hiv]
   have HIV:=hid hiv
   clear hiv htv hxv
   obtain ⟨dl,hdl'⟩:∃ dl,done.length=dl:=⟨_,rfl⟩
   have ow4:=O4.out
   rw [hdl'] at ow4 hdl
   have O4':=hid ow4
   have HDL:=hid hdl'
   clear ow4 hdl'
   go_wp2_with (at_builtin;refine wpList_append2 rfl _ _ 320 rfl w.heap.size 220 i0 .nilIface 1 16 Tryz.underlying320 HI.out.1 HI.out.2.1 HI.out.2.2.1 HI.out.2.2.2 rfl (by decide) _ dl _ rfl (O4'.out.alloc _) ⟨w4.heap.size,0,none⟩ 1 1 [.iface tv xv] rfl rfl ?c1 ?c2 ?c3 ?c4 ?c5 (by decide) ?_)
   case c1=>exact cell_one_new _ _ _
   case c2=>intro u hu;simp at hu;subst hu;rfl
   case c3=>unfold maxLen;omega
   case c4=>omega
   case c5=>simp;omega
   intro gg cc w5 hown hgrow hor
   have IT:=hid (row_more hbl OWN.out.2 OWN.out.1 K34.out N4.out.1 N4.out.2.2.1 N4.out.2.2.2 hgrow hor (n:=dl+1) (cc:=cc))
   have kg:=grown_kp hgrow
   have hge:∀ x,x∈(Value.ownBlock _).toList→w.heap.size≤x:=fun x hx=>(O4.out.lt x (by simpa using hx)).1
   have kw5:Kp [b] w w5:=⟨kg.os.trans kw4.os,kg.tape.trans kw4.tape,kg.output.trans kw4.output,Nat.le_trans kw4.size (Nat.le_trans (by simp) kg.size),fun q hq hn=>(kg.block q (by simp;omega) (fun e=>by have:=hge q e;omega)).trans (((Kp.alloc [] w4 _).block q (by omega) (by simp)).trans (kw4.block q hq hn))⟩
   have r5:=(r4.keep (Kp.alloc [] w4 (.cells #[.iface tv xv] 220)) (by simp)).keep kg (fun e=>by have:=hge b e;omega)
   have HD:=hid (And.intro hown (And.intro kw5 r5))
   have hat1:=atOf_rd rd
   have hat2:=atOf_rd r5
   have hls:=r5.le
   clear hown hgrow kw5 r5 kg hge hor
   go_wp2_with fail
   refine ⟨⟨k1',g1',done++[i],rest,?_,?_,IT.out,HD.out.2.2,HD.out.2.1,HV.out.2.2⟩,?_⟩
   ·rw [HV.out.1,List.map_append,List.map_singleton,N4.out.2.1,List.append_assoc];rfl
   ·have:=HD.out.1
    rw [List.length_append,List.length_singleton,HDL.out,List.map_append,List.map_singleton,HIV.out]
    exact this
   ·rw [hat1,hat2];omega
def BrsN (src:ByteArray) (l g':Nat):Nat→Nat→List Pi→Prop
 | k,g,[]=>l=k∧g'=g∧saw src k 124=false
 | k,g,p::ps=>saw src k 124=true∧∃ k1 g1,k < k1∧BranchN src (k+1) k1 g g1 p∧BrsN src l g' k1 g1 ps
theorem brs_ends {b l g:Nat} {src:ByteArray} {ps:List Pi} {w wr w1:World} {v:Value} {done:List It} (hbl:b < w.heap.size) (own:wr.ownsRow w.heap.size 220 1 v done.length (done.map It.v)) (nds:∀ i∈done,Item w.heap.size wr v i) (hps:ps=done.map It.pi) (hlen:done.length≤200) (hne:0 < done.length) (kp:Kp [b] w wr) (k1:Kp [b] wr w1) (r1:Rd w1 b src l g) :
  ∃ i:It,Ending.returned (.iface 302 v)=.returned i.v∧i.tv=302∧i.pi=piBranches ps∧Nd w.heap.size w1.heap.size w1 i∧Rd w1 b src l g∧Kp [b] w w1:=by
 have ow1:=ownsRow_keep own k1 (fun x hx=>by rw [List.mem_singleton.1 hx];exact hbl)
 refine ⟨branchesIt v done,rfl,rfl,by rw [pi_branches,hps],nd_branches ow1 (fun r hr=>ow1.lt r hr) (fun i hi=>?_) hlen hne,r1,kp.trans k1⟩
 obtain ⟨lo,hi',h1,h2,_,nd⟩:=nds i hi
 exact (nd.kept (Nat.lt_of_lt_of_le hbl h1) h2 k1).wide h1 (Nat.le_trans h2 k1.size)
theorem branchesN_all {src:ByteArray} {k k0 l g g0 g':Nat} {p0:Pi} {ps:List Pi} (h0:BranchN src k k0 g g0 p0) (hp:BrsN src l g' k0 g0 ps) (hlen:ps.length≤100):BranchesN src k l g g' (piBranches (p0::ps)):=by
 intro w b hb0 hr hw
 have HB:Hid (4∉[b]):=hid (by simpa using Ne.symm hb0)
 have hbl:=hr.lt
 obtain ⟨i0,hi,hz0,hz1,hz2⟩:=info_parts Tryz.infoNode
 have HI:=hid (And.intro hi (And.intro hz0 (And.intro hz1 hz2)))
 clear hi hz0 hz1 hz2
 have HP:=hid hp
 have C0:=hid (h0 w b hb0 hr hw)
 clear hp hr h0
 go_enter Tryz.func162,Tryz.ntmps162
 go_wp2_with fail
 refine C0.out.mono ?_
 rintro e w1 ⟨i,rfl,hpi,nd1,r1,k1⟩
 have hz1:=k1.size
 obtain ⟨tv,htv⟩:∃ tv,i.tv=tv:=⟨_,rfl⟩
 obtain ⟨xv,hxv⟩:∃ xv,i.xv=xv:=⟨_,rfl⟩
 have hiv:i.v=.iface tv xv:=by unfold It.v;rw [htv,hxv]
 rw [hiv]
 have N1:=hid (And.intro nd1 (And.intro hpi hiv))
 clear hiv htv hxv nd1 hpi C0
 go_wp2_with fail
 obtain ⟨o,ho⟩:∃ o:Obj,o=.cells #[.iface tv xv] 220:=⟨_,rfl⟩
 have k2:=Kp.alloc [] w1 o
 have r2:=r1.keep k2 (by simp)
 have ow2:(w1.alloc o).ownsRow w.heap.size 220 1 (.slice (some ⟨w1.heap.size,0,none⟩) 1 1) 1 [.iface tv xv]:=by
  refine ⟨rfl,.inr ⟨w1.heap.size,1,#[.iface tv xv],rfl,hz1,?_,Nat.le_refl _,by unfold maxLen;omega,rfl,rfl⟩⟩
  rw [ho];exact World.alloc_heap_new w1 _
 have it2:Item w.heap.size (w1.alloc o) (.slice (some ⟨w1.heap.size,0,none⟩) 1 1) i:=by
  refine ⟨w.heap.size,w1.heap.size,Nat.le_refl _,by simp,fun g e=>?_,N1.out.1.keep fun q _ q2=>k2.block q q2 (by simp)⟩
  have e:w1.heap.size=g:=by simpa [Value.ownBlock] using e
  rintro ⟨_,q⟩;omega
 have K2:Kp [b] w (w1.alloc o):=k1.trans (k2.mono (by simp))
 rw [←ho]
 have H2:=hid (And.intro ow2 (And.intro it2 (And.intro r2 K2)))
 generalize w1.alloc o=W2 at *
 clear ow2 it2 r2 K2 k2 r1 k1 ho
 generalize w1.heap.size=q0 at *
 go_loopw [3] (fun v wr=>∃ (k' g1:Nat) (done:List It) (rest:List Pi),p0::ps=done.map It.pi++rest∧0 < done.length∧wr.ownsRow w.heap.size 220 1 v done.length (done.map It.v)∧(∀ i∈done,Item w.heap.size wr v i)∧Rd wr b src k' g1∧Kp [b] w wr∧BrsN src l g' k' g1 rest) (fun _ wr=>3000 - atOf wr b)
 case atStart=>
  obtain ⟨a1,a2,a3,a4⟩:=H2.out
  refine ⟨k0,g0,[i],ps,by rw [List.map_singleton,N1.out.2.1];rfl,by simp,?_,fun j hj=>by rw [List.mem_singleton.1 hj];exact a2,a3,a4,HP.out⟩
  rw [List.length_singleton,List.map_singleton,N1.out.2.2]
  exact a1
 case round=>
  obtain ⟨k',g1,done,rest,hvs,hdn,own,nds,rd,kp,rok⟩:=hrel
  have OWN:=hid (And.intro own nds)
  have hsm:=rd.small
  have hdl:done.length≤101:=by
   have:=congrArg List.length hvs
   simp at this
   omega
  cases rest with
  | nil=>
   obtain ⟨rfl,rfl,h124⟩:=rok
   have HV:=hid hvs
   have fin:=hid (fun (w1:World) (k1:Kp [b] wr w1) (r1:Rd w1 b src l g')=>brs_ends (ps:=p0::ps) hbl OWN.out.1 OWN.out.2 (by rw [HV.out,List.append_nil]) (by omega) hdn kp k1 r1)
   clear hvs own nds H2 HP
   go_wp2_with fail
   refine (take_no 124 rd h124).mono ?_
   rintro e w1' ⟨rfl,r1,k1⟩
   go_wp2_with fail
   go_ret
   exact fin.out _ k1 r1
  | cons p rest=>
   obtain ⟨h124,k1',g1',hkl,pok,rok'⟩:=rok
   have HV:=hid (And.intro hvs (And.intro pok rok'))
   clear hvs pok rok' own nds H2 HP
   go_wp2_with fail
   refine (take_yes 124 rd h124).mono ?_
   rintro e w3 ⟨rfl,r3,k3'⟩
   have hw3:=hw.keep (kp.trans k3') HB.out
   go_wp2_with fail
   refine (HV.out.2.1 w3 b hb0 r3 hw3).mono ?_
   rintro e w4 ⟨i4,rfl,hpi4,nd4,r4,k4⟩
   have kw4:Kp [b] w w4:=kp.trans (k3'.trans k4)
   have O4:=hid (ownsRow_keep OWN.out.1 (k3'.trans k4) (fun x hx=>by rw [List.mem_singleton.1 hx];exact hbl))
   have hz4:=kw4.size
   have N4:=hid (And.intro nd4 (And.intro hpi4 (And.intro (kp.trans k3').size k3'.size)))
   have K34:=hid (k3'.trans k4)
   clear r3 hw3 nd4 hpi4
   obtain ⟨tv4,htv⟩:∃ tv,i4.tv=tv:=⟨_,rfl⟩
   obtain ⟨xv4,hxv⟩:∃ xv,i4.xv=xv:=⟨_,rfl⟩
   have hiv:i4.v=.iface tv4 xv4:=by unfold It.v;rw [htv,hxv]
   rw [hiv]
   have HIV:=hid hiv
   clear hiv htv hxv
   obtain ⟨dl,hdl'⟩:∃ dl,done.length=dl:=⟨_,rfl⟩
   have ow4:=O4.out
   rw [hdl'] at ow4 hdl
   have O4':=hid ow4
   have HDL:=hid hdl'
   clear ow4 hdl'
   go_wp2_with (at_builtin;refine wpList_append2 rfl _ _ 302 rfl w.heap.size 220 i0 .nilIface 1 16 Tryz.underlying302 HI.out.1 HI.out.2.1 HI.out.2.2.1 HI.out.2.2.2 rfl (by decide) _ dl _ rfl (O4'.out.alloc _) ⟨w4.heap.size,0,none⟩ 1 1 [.iface tv4 xv4] rfl rfl ?c1 ?c2 ?c3 ?c4 ?c5 (by decide) ?_)
   case c1=>exact cell_one_new _ _ _
   case c2=>intro u hu;simp at hu;subst hu;rfl
   case c3=>unfold maxLen;omega
   case c4=>omega
   case c5=>simp;omega
   intro gg cc w5 hown hgrow hor
   have IT:=hid (row_more hbl OWN.out.2 OWN.out.1 K34.out N4.out.1 N4.out.2.2.1 N4.out.2.2.2 hgrow hor (n:=dl+1) (cc:=cc))
   have kg:=grown_kp hgrow
   have hge:∀ x,x∈(Value.ownBlock _).toList→w.heap.size≤x:=fun x hx=>(O4.out.lt x (by simpa using hx)).1
   have kw5:Kp [b] w w5:=⟨kg.os.trans kw4.os,kg.tape.trans kw4.tape,kg.output.trans kw4.output,Nat.le_trans kw4.size (Nat.le_trans (by simp) kg.size),fun q hq hn=>(kg.block q (by simp;omega) (fun e=>by have:=hge q e;omega)).trans (((Kp.alloc [] w4 _).block q (by omega) (by simp)).trans (kw4.block q hq hn))⟩
   have r5:=(r4.keep (Kp.alloc [] w4 (.cells #[.iface tv4 xv4] 220)) (by simp)).keep kg (fun e=>by have:=hge b e;omega)
   have HD:=hid (And.intro hown (And.intro kw5 r5))
   have hat1:=atOf_rd rd
   have hat2:=atOf_rd r5
   have hls:=r5.le
   clear hown hgrow kw5 r5 kg hge hor
   go_wp2_with fail
   refine ⟨⟨k1',g1',done++[i4],rest,?_,by simp,?_,IT.out,HD.out.2.2,HD.out.2.1,HV.out.2.2⟩,?_⟩
   ·rw [HV.out.1,List.map_append,List.map_singleton,N4.out.2.1,List.append_assoc];rfl
   ·have:=HD.out.1
    rw [List.length_append,List.length_singleton,HDL.out,List.map_append,List.map_singleton,HIV.out]
    exact this
   ·rw [hat1,hat2];omega
theorem readsN_of {src:ByteArray} {fr G:Nat} {p:Pi} (h:BranchesN src fr src.size 0 G p):ReadsN src fr G p:=by
 intro w b hb0 hr hw
 have he2:((src.size:Int) == (src.size:Int))=true:=by simp
 go_enter Tryz.func111,Tryz.ntmps111
 go_wp2_with fail
 refine (h w b hb0 hr hw).mono ?_
 rintro e w1 ⟨i,rfl,htv,hpi,nd,r1,k1⟩
 have hz:=k1.size
 have N1:=hid (And.intro nd (And.intro htv hpi))
 clear nd htv hpi
 go_wp2_with fail
 refine (ended_r r1 he2).mono ?_
 rintro e w2 ⟨rfl,r2,k2⟩
 go_wp2_with fail
 go_ret
 refine ⟨i,rfl,N1.out.2.1,?_,⟨w.heap.size,w1.heap.size,k2.size,N1.out.1.kept hr.lt (Nat.le_refl _) k2⟩,r2,k1.trans k2⟩
 have:=N1.out.2.2
 rw [←this]
 exact ⟨rfl,rfl,rfl,rfl⟩
theorem Rd.group {w:World} {b:Nat} {src:ByteArray} {k g:Nat} (h:Rd w b src k g) (g1:Nat):Rd (w.setCell ⟨b,3,none⟩ (.int .i64 (g1:Int))) b src k g1:=by
 refine ⟨by simpa [World.setCell] using h.lt,h.le,h.small,?_,?_,?_,?_,fun i=>by simpa using h.free i⟩
 ·rw [cell_other _ (by simp)];exact h.c0
 ·rw [cell_other _ (by simp)];exact h.c1
 ·rw [cell_other _ (by simp)];exact h.ce
 ·rw [cell_same _ h.c2]
theorem atomN_group {src:ByteArray} {k l g g':Nat} {p:Pi} (hg:g < 9) (h40:saw src k 40=true) (hb:BranchesN src (k+1) l (g+1) g' p) (h41:saw src l 41=true):AtomN src k (l+1) g g' (piGroup (g+1) p):=by
 intro w b hb0 hr hw
 have HB:Hid (4∉[b]):=hid (by simpa using Ne.symm hb0)
 have grp:∀ (w:World),Rd w b src k g→Nm w→Calls Tryz.prog 277 #[.pointer (some ⟨b,0,none⟩)] w (RetN b src (l+1) g' (piGroup (g+1) p) w):=by
  intro w hr hw
  have c2:=hr.c2
  have f3:=hr.free 3
  obtain ⟨g1,hg1⟩:∃ g1:Nat,g1=g+1:=⟨_,rfl⟩
  have hsum:(g:Int)+1=(g1:Int):=by omega
  have wg:=wrap_i64_nat g1 (by omega)
  have hne:((g:Int) == 9)=false:=by rw [beq_eq_false_iff_ne];omega
  have r0:=hr.group g1
  have hw0:=hw.keep (Kp.setCell (S:=[b]) w (p:=⟨b,3,none⟩) (.int .i64 (g1:Int)) (by simp)) HB.out
  have HG:=hid hg1
  have hbl:=hr.lt
  rw [←hg1] at hb ⊢
  have HBR:=hid hb
  have R0:=hid (And.intro r0 hw0)
  have c3:=r0.c2
  clear hg1 hb r0 hw0 hr hw
  go_enter Tryz.func277,Tryz.ntmps277
  go_wp2_with fail
  refine (expect_yes 40 R0.out.1 h40).mono ?_
  rintro e w1 ⟨rfl,r1,k1⟩
  go_wp2_with fail
  refine (HBR.out w1 b hb0 r1 (R0.out.2.keep k1 HB.out)).mono ?_
  rintro e w2 ⟨i,rfl,_,hpi,nd2,r2,k2⟩
  obtain ⟨tv,htv⟩:∃ tv,i.tv=tv:=⟨_,rfl⟩
  obtain ⟨xv,hxv⟩:∃ xv,i.xv=xv:=⟨_,rfl⟩
  have hiv:i.v=.iface tv xv:=by unfold It.v;rw [htv,hxv]
  rw [hiv]
  have N2:=hid (And.intro nd2 (And.intro hpi hiv))
  clear nd2 hpi c2 c3 f3 htv hxv hiv
  go_wp2_with fail
  refine (expect_yes 41 r2 h41).mono ?_
  rintro e w3 ⟨rfl,r3,k3⟩
  go_wp2_with fail
  go_ret
  have k0:=Kp.setCell (S:=[b]) w (p:=⟨b,3,none⟩) (.int .i64 (g1:Int)) (by simp)
  have z01:w.heap.size≤w1.heap.size:=(k0.trans k1).size
  refine ⟨groupIt g1 i,?_,?_,?_,r3,k0.trans (k1.trans (k2.trans k3))⟩
  ·unfold It.v groupIt
   rw [N2.out.2.2]
   rfl
  ·rw [←N2.out.2.1];rfl
  ·exact ((nd_group N2.out.1 (by have:=HG.out;omega)).kept (Nat.lt_of_lt_of_le hbl z01) (Nat.le_refl _) k3).wide z01 k3.size
 go_enter Tryz.func265,Tryz.ntmps265
 go_wp2_with fail
 refine (sees_r 40 hr h40).mono ?_
 rintro e w1 ⟨rfl,r1,k1⟩
 go_wp2_with fail
 refine (grp w1 r1 (hw.keep k1 HB.out)).mono ?_
 rintro e w2 ⟨i,rfl,hpi,nd,r2,k2⟩
 have N2:=hid nd
 clear nd grp
 go_wp2_with fail
 go_ret
 exact ⟨i,rfl,hpi,N2.out.wide k1.size (Nat.le_refl _),r2,k1.trans k2⟩
