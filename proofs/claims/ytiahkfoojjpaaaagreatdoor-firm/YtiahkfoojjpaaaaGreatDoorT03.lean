import Derived.Test.YtiahkfoojjpaaaaGreatDoorT00
set_option maxRecDepth 100000
set_option maxHeartbeats 16000000
set_option linter.all false
namespace Go.Proofs.YtiahkfoojjpaaaaGreatDoor
open Go.RowKit
structure Cur (w:World) (b:Nat) (src:ByteArray) (k:Nat):Prop where
 lt:b < w.heap.size
 le:k<=src.size
 small:src.size<=2000
 c0:w.cell? ⟨b,0,none⟩=some (.string src)
 c1:w.cell? ⟨b,1,none⟩=some (.int .i64 k)
 free:∀ i,w.frozen? ⟨b,i,none⟩=false
section
variable {w w':World} {b k:Nat} {src:ByteArray}
theorem Cur.aj {S:List Nat} (h:Cur w b src k) (q:Kp S w w') (hn:b∉S):Cur w' b src k:=
 ⟨Ns h.lt q.size,h.le,h.small,by rw [q.cell h.lt hn];exact h.c0,by rw [q.cell h.lt hn];exact h.c1,fun i=>by rw [q.frozen h.lt hn];exact h.free i⟩
theorem Cur.drewN (h:Cur w b src k) (n:Nat):Cur (w.drewN n) b src k:=h.aj (Kp.drewN [] w n) (by simp)
theorem Cur.drew (h:Cur w b src k):Cur w.drew b src k:=h.aj (Kp.drew [] w) (by simp)
theorem Cur.step (h:Cur w b src k) (hk:k < src.size):Cur (w.setCell ⟨b,1,none⟩ (.int .i64 ((k:Int)+1))) b src (k+1):=by
 refine ⟨by simpa [World.setCell] using h.lt,by omega,h.small,?_,?_,fun i=>by simpa using h.free i⟩
 .rw [aq _ (by simp)];exact h.c0
 .rw [aw _ h.c1];simp
structure Mv (b:Nat) (w w':World):Prop where
 kp:Kp [b] w w'
 same:∀ j,j≠1->w'.cell? ⟨b,j,none⟩=w.cell? ⟨b,j,none⟩
theorem Mv.refl (b:Nat) (w:World):Mv b w w:=⟨Kp.refl _ _,fun _ _=>rfl⟩
theorem Mv.trans {u:World} (h:Mv b w w') (h2:Mv b w' u):Mv b w u:=⟨h.kp.trans h2.kp,fun j hj=>(h2.same j hj).trans (h.same j hj)⟩
theorem Mv.drewN (b:Nat) (w:World) (n:Nat):Mv b w (w.drewN n):=⟨Kp.drewN _ _ _,fun _ _=>by simp⟩
theorem Mv.drew (b:Nat) (w:World):Mv b w w.drew:=⟨Kp.drew _ _,fun _ _=>by simp⟩
theorem Mv.step (b:Nat) (w:World) (v:Value):Mv b w (w.setCell ⟨b,1,none⟩ v):=
 ⟨Kp.setCell _ _ (by simp),fun j hj=>aq _ (fun e=>by injection e with _ e2 _;exact hj e2.symm)⟩
def im (w:World) (b:Nat):Nat:=(intOf ((w.cell? ⟨b,1,none⟩).getD undef)).toNat
theorem aC (h:Cur w b src k):im w b=k:=by simp [im,h.c1,intOf]
theorem Ip (hr:Cur w b src k) (n:Nat) :
  Calls Tryz.prog 104 #[.pointer (some ⟨b,0,none⟩)] (w.drewN n) fun e w''=>e=.returned (.bool ((k:Int) == (src.size:Int)))/\∃ m,w''=w.drewN m:=
 Calls.quiet_of (gA b src k _ (hr.drewN n).c0 (hr.drewN n).c1)
theorem dj (hr:Cur w b src k) {v:Bool} (h:((k:Int) == (src.size:Int))=v) :
  Calls Tryz.prog 104 #[.pointer (some ⟨b,0,none⟩)] w fun e w'=>e=.returned (.bool v)/\Cur w' b src k/\Mv b w w':=by
 subst h;exact (gA b src k w hr.c0 hr.c1).mono fun e w' ⟨he,n,hw⟩=>⟨he,by rw [hw];exact hr.drewN n,by rw [hw];exact Mv.drewN _ _ _⟩
theorem MB (x:Int) (hr:Cur w b src k) :
  Calls Tryz.prog 137 #[.pointer (some ⟨b,0,none⟩),.int .u8 x] w fun e w'=>e=.returned (.bool (saw src k x))/\∃ n,w'=w.drewN n:=by
 by_cases hk:k < src.size
 .have:=Fm b src k x w hr.c0 hr.c1 hk;simpa [saw,hk] using this
 .have:=AX b src k x w hr.c0 hr.c1 (by have:=hr.le;omega);simpa [saw,hk] using this
theorem df (x:Int) (hr:Cur w b src k) {v:Bool} (h:saw src k x=v) :
  Calls Tryz.prog 137 #[.pointer (some ⟨b,0,none⟩),.int .u8 x] w fun e w'=>e=.returned (.bool v)/\Cur w' b src k/\Mv b w w':=by
 subst h;exact (MB x hr).mono fun e w' ⟨he,n,hw⟩=>⟨he,by rw [hw];exact hr.drewN n,by rw [hw];exact Mv.drewN _ _ _⟩
theorem aX (x:Int) (hr:Cur w b src k) {v:Bool} (h:saw src k x=v) :
  Calls Tryz.prog 149 #[.pointer (some ⟨b,0,none⟩),.int .u8 x] w fun e w'=>e=.returned (.bool v)/\Cur w' b src (if v then k+1 else k)/\Mv b w w':=by
 cases v
 .have H:Hid _:=h;go_enter Tryz.func149,Tryz.ntmps149
  go_wp2_with (go_at_call 137;refine (df x hr h).mono ?_;rintro e w1 ⟨rfl,h1,m1⟩)
  go_ret;exact ⟨rfl,h1,m1⟩
 .have hk:=aM h;have hsm:=hr.small;go_enter Tryz.func149,Tryz.ntmps149
  go_wp2_with (go_at_call 137;refine (df x hr h).mono ?_;rintro e w1 ⟨rfl,h1,m1⟩;have c1:=h1.c1;have f1:=h1.free 1)
  go_ret;exact ⟨rfl,h1.step hk,m1.trans (Mv.step _ _ _)⟩
def isB (s:ByteArray) (k:Nat):Bool:=saw s k 32 || saw s k 9
theorem xq {s:ByteArray} {k:Nat} (h:isB s k=true):k < s.size:=by
 unfold isB at h;rcases Bool.or_eq_true_iff.1 h with q | q <;> exact aM q
theorem tS (hr:Cur w b src k) {v:Bool} (h:isB src k=v) :
  Calls Tryz.prog 150 #[.pointer (some ⟨b,0,none⟩)] w fun e w'=>e=.returned (.bool v)/\Cur w' b src (if v then k+1 else k)/\Mv b w w':=by
 cases h32:saw src k 32
 .cases h9:saw src k 9
  .obtain rfl:v=false:=by rw [<-h];simp [isB,h32,h9]
   go_enter Tryz.func150,Tryz.ntmps150
   go_wp2_with fail;refine (aX 32 hr h32).mono ?_;rintro e w1 ⟨rfl,h1,m1⟩;go_wp2_with fail;refine (aX 9 h1 h9).mono ?_;rintro e w2 ⟨rfl,h2,m2⟩;go_wp2_with fail;go_ret;exact ⟨rfl,h2,m1.trans m2⟩
  .obtain rfl:v=true:=by rw [<-h];simp [isB,h32,h9]
   go_enter Tryz.func150,Tryz.ntmps150
   go_wp2_with fail;refine (aX 32 hr h32).mono ?_;rintro e w1 ⟨rfl,h1,m1⟩;go_wp2_with fail;refine (aX 9 h1 h9).mono ?_;rintro e w2 ⟨rfl,h2,m2⟩;go_wp2_with fail;go_ret;exact ⟨rfl,h2,m1.trans m2⟩
 .obtain rfl:v=true:=by rw [<-h];simp [isB,h32]
  go_enter Tryz.func150,Tryz.ntmps150
  go_wp2_with fail;refine (aX 32 hr h32).mono ?_;rintro e w1 ⟨rfl,h1,m1⟩;go_wp2_with fail;go_ret;exact ⟨rfl,h1,m1⟩
def skB (s:ByteArray):Nat->Nat->Nat
 | 0,k=>k
 | n+1,k=>if isB s k then skB s n (k+1) else k
def blk (s:ByteArray) (k:Nat):Nat:=skB s (s.size - k) k
theorem blk_no {s:ByteArray} {k:Nat} (h:isB s k=false):blk s k=k:=by
 unfold blk
 cases s.size - k <;> simp [skB,h]
theorem blk_yes {s:ByteArray} {k:Nat} (h:isB s k=true):blk s k=blk s (k+1):=by
 have hk:=xq h;unfold blk;rw [show s.size - k=(s.size - (k+1))+1 by omega];simp [skB,h]
theorem dG (hr:Cur w b src k) :
  Calls Tryz.prog 135 #[.pointer (some ⟨b,0,none⟩)] w fun e w'=>e=.returned (.tuple #[])/\Cur w' b src (blk src k)/\Mv b w w':=by
 go_enter Tryz.func135,Tryz.ntmps135
 go_wp2;go_loopw [2] (fun _ wr=>∃ a:Nat,Cur wr b src a/\Mv b w wr/\Hid (blk src a=blk src k)) (fun _ wr=>3000 - im wr b)
 case atStart=>exact ⟨k,hr,Mv.refl _ _,hid rfl⟩
 case round=>
  obtain ⟨a,hrr,hmv,HB⟩:=hrel;have HAT:=hid (aC hrr)
  cases hb:isB src a
  .go_wp2_with fail;refine (tS hrr hb).mono ?_;rintro e w1 ⟨rfl,h1,m1⟩;go_wp2_with fail;go_end0;refine ⟨rfl,?_,hmv.trans m1⟩;rw [<-HB.out,blk_no hb];exact h1
  .have hlt:=xq hb;have hsm:=hr.small;go_wp2_with fail;refine (tS hrr hb).mono ?_;rintro e w1 ⟨rfl,h1,m1⟩;go_wp2_with fail;go_round
   case rel=>exact ⟨a+1,h1,hmv.trans m1,hid (by rw [<-blk_yes hb];exact HB.out)⟩
   case measure=>rw [aC (by simpa using h1),HAT.out];omega
end
section
variable {w w':World} {b k:Nat} {src:ByteArray}
def IJ (s:ByteArray):Nat->Nat->Option Nat
 | 0,_=>none
 | n+1,k=>if k < s.size && !saw s k 10 then IJ s n (k+1) else some k
theorem IC {n e:Nat} (hr:Cur w b src k) (h:IJ src n k=some e) :
  Calls Tryz.prog 148 #[.pointer (some ⟨b,0,none⟩)] w fun r w'=>r=.returned (.tuple #[])/\Cur w' b src e/\Mv b w w':=by
 have hsm:=hr.small;have H:=hid h;clear h;go_enter Tryz.func148,Tryz.ntmps148
 go_wp2;go_loopw [2] (fun _ wr=>∃ a m:Nat,Cur wr b src a/\Mv b w wr/\Hid (IJ src m a=some e)) (fun _ wr=>3000 - im wr b)
 case atStart=>exact ⟨k,n,hr,Mv.refl _ _,H⟩
 case round=>
  obtain ⟨a,m,hrr,hmv,HB⟩:=hrel;have HAT:=hid (aC hrr)
  match m,HB with
  | 0,HB=>cases HB.out
  | m+1,HB=>
  have hB:=HB.out;unfold IJ at hB;have hle:=hrr.le;by_cases hk:a < src.size
  .have he:((a:Int) == (src.size:Int))=false:=by simp;omega
   cases h10:saw src a 10
   .simp [hk,h10] at hB;clear HB;have HB:=hid hB;clear hB;go_wp2_with fail;refine (dj hrr he).mono ?_;rintro e w1 ⟨rfl,h1,m1⟩;go_wp2_with fail;refine (df 10 h1 h10).mono ?_;rintro e w2 ⟨rfl,h2,m2⟩;have c1:=h2.c1;have f1:=h2.free 1;go_wp2_with fail;go_round
    case rel=>exact ⟨a+1,m,h2.step hk,hmv.trans (m1.trans (m2.trans (Mv.step _ _ _))),HB⟩
    case measure=>rw [aC (h2.step hk),HAT.out];omega
   .simp [hk,h10] at hB;subst hB;clear HB;go_wp2_with fail;refine (dj hrr he).mono ?_;rintro e w1 ⟨rfl,h1,m1⟩;go_wp2_with fail;refine (df 10 h1 h10).mono ?_;rintro e w2 ⟨rfl,h2,m2⟩;go_wp2_with fail;go_end0;exact ⟨rfl,h2,hmv.trans (m1.trans m2)⟩
  .have he:((a:Int) == (src.size:Int))=true:=by simp;omega
   simp [hk] at hB;subst hB;clear HB;go_wp2_with fail;refine (dj hrr he).mono ?_;rintro e w1 ⟨rfl,h1,m1⟩;go_wp2_with fail;go_end0;exact ⟨rfl,h1,hmv.trans m1⟩
def Na (s:ByteArray):Nat->Nat->Option Nat
 | 0,_=>none
 | n+1,k=>if saw s k 35 then (IJ s n k).bind (fun e=>Na s n e) else if saw s k 10 || saw s k 59 || isB s k then Na s n (k+1) else some k
theorem IH {s:ByteArray}:∀ {n k e:Nat},IJ s n k=some e->k<=e
 | 0,_,_,h=>by cases h
 | n+1,k,e,h=>by
  unfold IJ at h;split at h
  .have:=IH h;omega
  .simp at h;omega
theorem LP {s:ByteArray} {n k e:Nat} (h:IJ s n k=some e) (h35:saw s k 35=true):k < e:=by
 cases n with
 | zero=>cases h
 | succ n=>
  unfold IJ at h;have h10:saw s k 10=false:=by
   have hk:=aM h35;simp only [saw,hk,dif_pos,beq_iff_eq] at h35 ⊢;rw [h35];rfl
  simp [aM h35,h10] at h;have:=IH h;omega
theorem yb {n e:Nat} (hr:Cur w b src k) (h:Na src n k=some e) :
  Calls Tryz.prog 103 #[.pointer (some ⟨b,0,none⟩)] w fun r w'=>r=.returned (.tuple #[])/\Cur w' b src e/\Mv b w w':=by
 have hsm:=hr.small;have H:=hid h;clear h;go_enter Tryz.func103,Tryz.ntmps103
 go_wp2;go_loopw [2] (fun _ wr=>∃ a m:Nat,Cur wr b src a/\Mv b w wr/\Hid (Na src m a=some e)) (fun _ wr=>3000 - im wr b)
 case atStart=>exact ⟨k,n,hr,Mv.refl _ _,H⟩
 case round=>
  obtain ⟨a,m,hrr,hmv,HB⟩:=hrel;have HAT:=hid (aC hrr)
  match m,HB with
  | 0,HB=>cases HB.out
  | m+1,HB=>
  have hB:=HB.out;unfold Na at hB;have hle:=hrr.le;clear HB
  cases h35:saw src a 35
  .rw [h35,Nr (by simp)] at hB
   cases h10:saw src a 10
   .cases h59:saw src a 59
    .cases hb:isB src a
     .simp [h10,h59,hb] at hB;subst hB;go_wp2_with fail;refine (df 35 hrr h35).mono ?_;rintro e w1 ⟨rfl,h1,m1⟩;go_wp2_with fail;refine (aX 10 h1 h10).mono ?_;rintro e w2 ⟨rfl,h2,m2⟩;go_wp2_with fail;refine (aX 59 h2 h59).mono ?_;rintro e w3 ⟨rfl,h3,m3⟩;go_wp2_with fail;refine (tS h3 hb).mono ?_;rintro e w4 ⟨rfl,h4,m4⟩;go_wp2_with fail;refine bodyPost_ret (results_none rfl _ _ _) rfl ?_;exact ⟨rfl,h4,hmv.trans (m1.trans (m2.trans (m3.trans m4)))⟩
     .simp [h10,h59,hb] at hB;have hlt:=xq hb;have HB:=hid hB;clear hB;go_wp2_with fail;refine (df 35 hrr h35).mono ?_;rintro e w1 ⟨rfl,h1,m1⟩;go_wp2_with fail;refine (aX 10 h1 h10).mono ?_;rintro e w2 ⟨rfl,h2,m2⟩;go_wp2_with fail;refine (aX 59 h2 h59).mono ?_;rintro e w3 ⟨rfl,h3,m3⟩;go_wp2_with fail;refine (tS h3 hb).mono ?_;rintro e w4 ⟨rfl,h4,m4⟩;go_wp2_with fail;go_round
      case rel=>exact ⟨a+1,m,h4,hmv.trans (m1.trans (m2.trans (m3.trans m4))),HB⟩
      case measure=>rw [aC (show Cur w4 b src (a+1) from h4),HAT.out];omega
    .simp [h10,h59] at hB;have hlt:=aM h59;have HB:=hid hB;clear hB;go_wp2_with fail;refine (df 35 hrr h35).mono ?_;rintro e w1 ⟨rfl,h1,m1⟩;go_wp2_with fail;refine (aX 10 h1 h10).mono ?_;rintro e w2 ⟨rfl,h2,m2⟩;go_wp2_with fail;refine (aX 59 h2 h59).mono ?_;rintro e w3 ⟨rfl,h3,m3⟩;go_wp2_with fail;go_round
     case rel=>exact ⟨a+1,m,h3,hmv.trans (m1.trans (m2.trans m3)),HB⟩
     case measure=>rw [aC (show Cur w3 b src (a+1) from h3),HAT.out];omega
   .simp [h10] at hB;have hlt:=aM h10;have HB:=hid hB;clear hB;go_wp2_with fail;refine (df 35 hrr h35).mono ?_;rintro e w1 ⟨rfl,h1,m1⟩;go_wp2_with fail;refine (aX 10 h1 h10).mono ?_;rintro e w2 ⟨rfl,h2,m2⟩;go_wp2_with fail;go_round
    case rel=>exact ⟨a+1,m,h2,hmv.trans (m1.trans m2),HB⟩
    case measure=>rw [aC (show Cur w2 b src (a+1) from h2),HAT.out];omega
  .rw [h35,Ny rfl] at hB;obtain ⟨a2,hc,hB⟩:=Option.bind_eq_some_iff.1 hB;have hgt:=LP hc h35;have HB:=hid hB;have HC:=hid hc;clear hB hc;go_wp2_with fail;refine (df 35 hrr h35).mono ?_;rintro e w1 ⟨rfl,h1,m1⟩;go_wp2_with fail;refine (IC h1 HC.out).mono ?_;rintro e w2 ⟨rfl,h2,m2⟩;have hle2:=h2.le;go_wp2_with fail;go_round
   case rel=>exact ⟨a2,m,h2,hmv.trans (m1.trans m2),HB⟩
   case measure=>rw [aC h2,HAT.out];omega
end
section
variable {w w':World} {b k:Nat} {src:ByteArray}
def isW (s:ByteArray) (k:Nat):Bool:=if h:k < s.size then (decide (65<=(s[k]).toNat) && decide ((s[k]).toNat<=90)) || (decide (97<=(s[k]).toNat) && decide ((s[k]).toNat<=122)) || (decide (48<=(s[k]).toNat) && decide ((s[k]).toNat<=57)) else false
theorem BO {s:ByteArray} {k:Nat} (h:isW s k=true):k < s.size:=by
 unfold isW at h;split at h
 .assumption
 .cases h
theorem ik {x y:Nat} {v:Bool} (h:decide (x<=y)=v):decide ((x:Int)<=(y:Int))=v:=by
 rw [<-h];simp
theorem dY (hr:Cur w b src k) {v:Bool} (h:isW src k=v) :
  Calls Tryz.prog 136 #[.pointer (some ⟨b,0,none⟩)] w fun e w'=>e=.returned (.bool v)/\Cur w' b src k/\Mv b w w':=by
 by_cases hk:k < src.size
 .have he:((k:Int) == (src.size:Int))=false:=by simp;omega
  rw [isW,dif_pos hk] at h;obtain ⟨y,hy⟩:∃ y:Nat,y=(src[k]).toNat:=⟨_,rfl⟩;rw [<-hy] at h;have HY:=hid hy;clear hy
  cases h1:decide (65<=y) <;> cases h2:decide (y<=90) <;> cases h3:decide (97<=y) <;> cases h4:decide (y<=122) <;> cases h5:decide (48<=y) <;> cases h6:decide (y<=57) <;> first
   | (exfalso;simp only [decide_eq_true_eq,decide_eq_false_iff_not] at h1 h2 h3 h4 h5 h6;omega)
   | (
    have g1:decide ((65:Int)<=(y:Int))=_:=ik h1;have g2:decide ((y:Int)<=90)=_:=ik h2;have g3:decide ((97:Int)<=(y:Int))=_:=ik h3;have g4:decide ((y:Int)<=122)=_:=ik h4;have g5:decide ((48:Int)<=(y:Int))=_:=ik h5;have g6:decide ((y:Int)<=57)=_:=ik h6;rw [h1,h2,h3,h4,h5,h6] at h;simp at h;clear h1 h2 h3 h4 h5 h6;subst h;go_enter Tryz.func136,Tryz.ntmps136
    go_wp2_with fail;refine (dj hr he).mono ?_;rintro e w1 ⟨rfl,h1,m1⟩;have c0:=h1.c0;have c1:=h1.c1;have c5:(⟨src.data⟩:ByteArray)[k].toNat=y:=HY.out.symm;go_wp2_with fail;go_quiet (fail);go_wp2_with fail;go_ret
    exact ⟨rfl,h1.drewN _,m1.trans (Mv.drewN _ _ _)⟩)
 .have he:((k:Int) == (src.size:Int))=true:=by have:=hr.le;simp;omega
  rw [isW,dif_neg hk] at h;subst h;go_enter Tryz.func136,Tryz.ntmps136
  go_wp2_with fail;refine (dj hr he).mono ?_;rintro e w1 ⟨rfl,h1,m1⟩;go_wp2_with fail;go_ret;exact ⟨rfl,h1,m1⟩
def wdN (s:ByteArray) (f:Nat):Nat->Nat->Option Nat
 | 0,_=>none
 | n+1,k=>if isW s k then (if k - f=8 then none else wdN s f n (k+1)) else if k=f then none else some k
theorem AG {n e:Nat} (hr:Cur w b src k) (h:wdN src (blk src k) n (blk src k)=some e) :
  Calls Tryz.prog 134 #[.pointer (some ⟨b,0,none⟩)] w fun r w'=>r=.returned (.string (src.extract (blk src k) e))/\Cur w' b src e/\Mv b w w':=by
 have hsm:=hr.small;obtain ⟨f,hf⟩:∃ f,f=blk src k:=⟨_,rfl⟩;rw [<-hf] at h ⊢;have H:=hid h;have HF:=hid hf;clear h hf;go_enter Tryz.func134,Tryz.ntmps134
 go_wp2_with fail;refine (dG hr).mono ?_;rintro r w1 ⟨rfl,h1,m1⟩;rw [<-HF.out] at h1;have c1:=h1.c1;go_wp2_with fail;clear c1;go_loopw [11] (fun _ wr=>∃ a m:Nat,f<=a/\Cur wr b src a/\Mv b w wr/\Hid (wdN src f m a=some e)) (fun _ wr=>3000 - im wr b)
 case atStart=>exact ⟨f,n,Nw _,h1,m1,H⟩
 case round=>
  obtain ⟨a,m,hfa,hrr,hmv,HB⟩:=hrel;have HAT:=hid (aC hrr)
  match m,HB with
  | 0,HB=>cases HB.out
  | m+1,HB=>
  have hB:=HB.out;unfold wdN at hB;have hle:=hrr.le;clear HB
  cases hw:isW src a
  .rw [hw,Nr (by simp)] at hB;by_cases hx:a=f
   .rw [Ny hx] at hB;cases hB
   .rw [Nr hx] at hB;injection hB with hB;subst hB;have hne:((a:Int) == (f:Int))=false:=by rw [Nz];omega
    go_wp2_with fail;refine (dY hrr hw).mono ?_;rintro r w2 ⟨rfl,h2,m2⟩;have c0:=h2.c0;have c1:=h2.c1;go_wp2_with fail;go_quiet (fail);go_wp2_with fail;go_ret;exact ⟨rfl,h2.drewN _,hmv.trans (m2.trans (Mv.drewN _ _ _))⟩
  .rw [hw,Ny rfl] at hB;have hlt:=BO hw;by_cases hx:a - f=8
   .rw [Ny hx] at hB;cases hB
   .rw [Nr hx] at hB;obtain ⟨d,hd⟩:∃ d:Nat,(a:Int) - (f:Int)=(d:Int):=⟨a - f,by omega⟩;have wd:=aa d (by omega);have hne:((d:Int) == 8)=false:=by rw [Nz];omega
    have HB:=hid hB;clear hB;go_wp2_with fail;refine (dY hrr hw).mono ?_;rintro r w2 ⟨rfl,h2,m2⟩;have c1:=h2.c1;have f1:=h2.free 1;go_wp2_with fail;go_round
    case rel=>exact ⟨a+1,m,by omega,h2.step hlt,hmv.trans (m2.trans (Mv.step _ _ _)),HB⟩
    case measure=>rw [aC (h2.step hlt),HAT.out];omega
end
