import Derived.Test.YtiahkfoojjpaaaaGreatDoorS00
import Derived.Deep.MidRow
set_option maxRecDepth 100000
set_option maxHeartbeats 16000000
set_option linter.all false
namespace Go.Proofs.YtiahkfoojjpaaaaGreatDoor
open Go.RowKit
structure Cur(w:World)(b:Nat)(src:ByteArray)(k:Nat):Prop where
 lt:b<w.heap.size
 le:k<=src.size
 small:src.size<=2000
 c0:w.cell? ⟨b,0,none⟩=some (.string src)
 c1:w.cell? ⟨b,1,none⟩=some (.int .i64 k)
 free:∀i,w.frozen? ⟨b,i,none⟩=false
section
variable {w w':World}{b k:Nat}{src:ByteArray}
theorem Cur.aj{S:List Nat}(h:Cur w b src k)(q:Kp S w w')(hn:b∉S):Cur w' b src k:=
 ⟨Qx h.lt q.size,h.le,h.small,by rw[q.cell h.lt hn];exact h.c0,by rw[q.cell h.lt hn];exact h.c1,fun i=>by rw[q.frozen h.lt hn];exact h.free i⟩
theorem Cur.drewN(h:Cur w b src k)(n:Nat):Cur (w.drewN n) b src k:=h.aj (Kp.drewN [] w n) (by simp)
theorem Cur.drew(h:Cur w b src k):Cur w.drew b src k:=h.aj (Kp.drew [] w) (by simp)
theorem Cur.step(h:Cur w b src k)(hk:k<src.size):Cur (w.setCell ⟨b,1,none⟩ (.int .i64 ((k:Int)+1))) b src (k+1):=by
 refine⟨by simpa[World.setCell] using h.lt,by omega,h.small,?_,?_,fun i=>by simpa using h.free i⟩
 .rw[aq _ (by simp)];exact h.c0
 .rw[aw _ h.c1];simp
structure Mv(b:Nat)(w w':World):Prop where
 kp:Kp [b] w w'
 same:∀j,j≠1->w'.cell? ⟨b,j,none⟩=w.cell? ⟨b,j,none⟩
theorem Mv.refl(b:Nat)(w:World):Mv b w w:=⟨Kp.refl _ _,fun _ _=>rfl⟩
theorem Mv.trans{u:World}(h:Mv b w w')(h2:Mv b w' u):Mv b w u:=⟨h.kp.trans h2.kp,fun j hj=>(h2.same j hj).trans (h.same j hj)⟩
theorem Mv.drewN(b:Nat)(w:World)(n:Nat):Mv b w (w.drewN n):=⟨Kp.drewN _ _ _,fun _ _=>by simp⟩
theorem Mv.drew(b:Nat)(w:World):Mv b w w.drew:=⟨Kp.drew _ _,fun _ _=>by simp⟩
theorem Mv.step(b:Nat)(w:World)(v:Value):Mv b w (w.setCell ⟨b,1,none⟩ v):=
 ⟨Kp.setCell _ _ (by simp),fun j hj=>aq _ (fun e=>by injection e with _ e2 _;exact hj e2.symm)⟩
def jc(w:World)(b:Nat):Nat:=(intOf ((w.cell? ⟨b,1,none⟩).getD undef)).toNat
theorem aE(h:Cur w b src k):jc w b=k:=by simp[jc,h.c1,intOf]
theorem Ki(hr:Cur w b src k)(n:Nat):Calls Tryz.prog 104 #[.pointer (some ⟨b,0,none⟩)] (w.drewN n) fun e w''=>e=.returned (.bool ((k:Int)==(src.size:Int)))/\∃m,w''=w.drewN m:=
 Calls.quiet_of (ib b src k _ (hr.drewN n).c0 (hr.drewN n).c1)
theorem du(hr:Cur w b src k){v:Bool}(h:((k:Int)==(src.size:Int))=v):Calls Tryz.prog 104 #[.pointer (some ⟨b,0,none⟩)] w fun e w'=>e=.returned (.bool v)/\Cur w' b src k/\Mv b w w':=by
 subst h;exact(ib b src k w hr.c0 hr.c1).mono fun e w' ⟨he,n,hw⟩=>⟨he,by rw[hw];exact hr.drewN n,by rw[hw];exact Mv.drewN _ _ _⟩
theorem PF(x:Int)(hr:Cur w b src k):Calls Tryz.prog 137 #[.pointer (some ⟨b,0,none⟩),.int .u8 x] w fun e w'=>e=.returned (.bool (saw src k x))/\∃n,w'=w.drewN n:=by
 by_cases hk:k<src.size
 .have:=Ir b src k x w hr.c0 hr.c1 hk;simpa[saw,hk] using this
 .have:=CQ b src k x w hr.c0 hr.c1 (by have:=hr.le;omega);simpa[saw,hk] using this
theorem dk(x:Int)(hr:Cur w b src k){v:Bool}(h:saw src k x=v):Calls Tryz.prog 137 #[.pointer (some ⟨b,0,none⟩),.int .u8 x] w fun e w'=>e=.returned (.bool v)/\Cur w' b src k/\Mv b w w':=by
 subst h;exact(PF x hr).mono fun e w' ⟨he,n,hw⟩=>⟨he,by rw[hw];exact hr.drewN n,by rw[hw];exact Mv.drewN _ _ _⟩
theorem df(x:Int)(hr:Cur w b src k){v:Bool}(h:saw src k x=v):Calls Tryz.prog 149 #[.pointer (some ⟨b,0,none⟩),.int .u8 x] w fun e w'=>e=.returned (.bool v)/\Cur w' b src (if v then k+1 else k)/\Mv b w w':=by
 cases v
 .have H:Hid _:=h;go_enter Tryz.func149,Tryz.ntmps149
  go_wp2_with (go_at_call 137;refine(dk x hr h).mono ?_;rintro e w1 ⟨rfl,h1,m1⟩)
  go_ret;exact⟨rfl,h1,m1⟩
 .have hk:=aC h;have hsm:=hr.small;go_enter Tryz.func149,Tryz.ntmps149
  go_wp2_with (go_at_call 137;refine(dk x hr h).mono ?_;rintro e w1 ⟨rfl,h1,m1⟩;have c1:=h1.c1;have f1:=h1.free 1)
  go_ret;exact⟨rfl,h1.step hk,m1.trans (Mv.step _ _ _)⟩
def isB(s:ByteArray)(k:Nat):Bool:=saw s k 32||saw s k 9
theorem tp{s:ByteArray}{k:Nat}(h:isB s k=true):k<s.size:=by
 unfold isB at h;rcases Bool.or_eq_true_iff.1 h with q|q<;>exact aC q
theorem xC(hr:Cur w b src k){v:Bool}(h:isB src k=v):Calls Tryz.prog 150 #[.pointer (some ⟨b,0,none⟩)] w fun e w'=>e=.returned (.bool v)/\Cur w' b src (if v then k+1 else k)/\Mv b w w':=by
 cases h32:saw src k 32
 .cases h9:saw src k 9
  .obtain rfl:v=false:=by rw[<-h];simp[isB,h32,h9]
   go_enter Tryz.func150,Tryz.ntmps150
   go_wp2_with fail;refine(df 32 hr h32).mono ?_;rintro e w1 ⟨rfl,h1,m1⟩;go_wp2_with fail;refine(df 9 h1 h9).mono ?_;rintro e w2 ⟨rfl,h2,m2⟩;go_wp2_with fail;go_ret;exact⟨rfl,h2,m1.trans m2⟩
  .obtain rfl:v=true:=by rw[<-h];simp[isB,h32,h9]
   go_enter Tryz.func150,Tryz.ntmps150
   go_wp2_with fail;refine(df 32 hr h32).mono ?_;rintro e w1 ⟨rfl,h1,m1⟩;go_wp2_with fail;refine(df 9 h1 h9).mono ?_;rintro e w2 ⟨rfl,h2,m2⟩;go_wp2_with fail;go_ret;exact⟨rfl,h2,m1.trans m2⟩
 .obtain rfl:v=true:=by rw[<-h];simp[isB,h32]
  go_enter Tryz.func150,Tryz.ntmps150
  go_wp2_with fail;refine(df 32 hr h32).mono ?_;rintro e w1 ⟨rfl,h1,m1⟩;go_wp2_with fail;go_ret;exact⟨rfl,h1,m1⟩
def skB(s:ByteArray):Nat->Nat->Nat
 | 0,k=>k
 | n+1,k=>if isB s k then skB s n (k+1) else k
def blk(s:ByteArray)(k:Nat):Nat:=skB s (s.size-k) k
theorem lE{s:ByteArray}{k:Nat}(h:isB s k=false):blk s k=k:=by
 unfold blk
 cases s.size-k<;>simp[skB,h]
theorem blk_yes{s:ByteArray}{k:Nat}(h:isB s k=true):blk s k=blk s (k+1):=by
 have hk:=tp h;unfold blk;rw[show s.size-k=(s.size-(k+1))+1 by omega];simp[skB,h]
theorem dS(hr:Cur w b src k):Calls Tryz.prog 135 #[.pointer (some ⟨b,0,none⟩)] w fun e w'=>e=.returned (.tuple #[])/\Cur w' b src (blk src k)/\Mv b w w':=by
 go_enter Tryz.func135,Tryz.ntmps135
 go_wp2;go_loopw [2] (fun _ wr=>∃a:Nat,Cur wr b src a/\Mv b w wr/\Hid (blk src a=blk src k)) (fun _ wr=>3000-jc wr b)
 case atStart=>exact⟨k,hr,Mv.refl _ _,hid rfl⟩
 case round=>
  obtain⟨a,hrr,hmv,HB⟩:=hrel;have HAT:=hid (aE hrr)
  cases hb:isB src a
  .go_wp2_with fail;refine(xC hrr hb).mono ?_;rintro e w1 ⟨rfl,h1,m1⟩;go_wp2_with fail;go_end0;refine⟨rfl,?_,hmv.trans m1⟩;rw[<-HB.out,lE hb];exact h1
  .have hlt:=tp hb;have hsm:=hr.small;go_wp2_with fail;refine(xC hrr hb).mono ?_;rintro e w1 ⟨rfl,h1,m1⟩;go_wp2_with fail;go_round
   case rel=>exact⟨a+1,h1,hmv.trans m1,hid (by rw[<-blk_yes hb];exact HB.out)⟩
   case measure=>rw[aE (by simpa using h1),HAT.out];omega
end
section
variable {w w':World}{b k:Nat}{src:ByteArray}
def Kz(s:ByteArray):Nat->Nat->Option Nat
 | 0,_=>none
 | n+1,k=>if k<s.size && !saw s k 10 then Kz s n (k+1) else some k
theorem Kt{n e:Nat}(hr:Cur w b src k)(h:Kz src n k=some e):Calls Tryz.prog 148 #[.pointer (some ⟨b,0,none⟩)] w fun r w'=>r=.returned (.tuple #[])/\Cur w' b src e/\Mv b w w':=by
 have hsm:=hr.small;have H:=hid h;clear h;go_enter Tryz.func148,Tryz.ntmps148
 go_wp2;go_loopw [2] (fun _ wr=>∃a m:Nat,Cur wr b src a/\Mv b w wr/\Hid (Kz src m a=some e)) (fun _ wr=>3000-jc wr b)
 case atStart=>exact⟨k,n,hr,Mv.refl _ _,H⟩
 case round=>
  obtain⟨a,m,hrr,hmv,HB⟩:=hrel;have HAT:=hid (aE hrr)
  match m,HB with
  | 0,HB=>cases HB.out
  | m+1,HB=>
  have hB:=HB.out;unfold Kz at hB;have hle:=hrr.le;by_cases hk:a<src.size
  .have he:((a:Int)==(src.size:Int))=false:=by simp;omega
   cases h10:saw src a 10
   .simp[hk,h10] at hB;clear HB;have HB:=hid hB;clear hB;go_wp2_with fail;refine(du hrr he).mono ?_;rintro e w1 ⟨rfl,h1,m1⟩;go_wp2_with fail;refine(dk 10 h1 h10).mono ?_;rintro e w2 ⟨rfl,h2,m2⟩;have c1:=h2.c1;have f1:=h2.free 1;go_wp2_with fail;go_round
    case rel=>exact⟨a+1,m,h2.step hk,hmv.trans (m1.trans (m2.trans (Mv.step _ _ _))),HB⟩
    case measure=>rw[aE (h2.step hk),HAT.out];omega
   .simp[hk,h10] at hB;subst hB;clear HB;go_wp2_with fail;refine(du hrr he).mono ?_;rintro e w1 ⟨rfl,h1,m1⟩;go_wp2_with fail;refine(dk 10 h1 h10).mono ?_;rintro e w2 ⟨rfl,h2,m2⟩;go_wp2_with fail;go_end0;exact⟨rfl,h2,hmv.trans (m1.trans m2)⟩
  .have he:((a:Int)==(src.size:Int))=true:=by simp;omega
   simp[hk] at hB;subst hB;clear HB;go_wp2_with fail;refine(du hrr he).mono ?_;rintro e w1 ⟨rfl,h1,m1⟩;go_wp2_with fail;go_end0;exact⟨rfl,h1,hmv.trans m1⟩
def Qg(s:ByteArray):Nat->Nat->Option Nat
 | 0,_=>none
 | n+1,k=>if saw s k 35 then (Kz s n k).bind (fun e=>Qg s n e) else if saw s k 10||saw s k 59||isB s k then Qg s n (k+1) else some k
theorem Kx{s:ByteArray}:∀{n k e:Nat},Kz s n k=some e->k<=e
 | 0,_,_,h=>by cases h
 | n+1,k,e,h=>by
  unfold Kz at h;split at h
  .have:=Kx h;omega
  .simp at h;omega
theorem OM{s:ByteArray}{n k e:Nat}(h:Kz s n k=some e)(h35:saw s k 35=true):k<e:=by
 cases n with
 | zero=>cases h
 | succ n=>
  unfold Kz at h;have h10:saw s k 10=false:=by
   have hk:=aC h35;simp only[saw,hk,dif_pos,beq_iff_eq] at h35 ⊢;rw[h35];rfl
  simp[aC h35,h10] at h;have:=Kx h;omega
theorem Ad{n e:Nat}(hr:Cur w b src k)(h:Qg src n k=some e):Calls Tryz.prog 103 #[.pointer (some ⟨b,0,none⟩)] w fun r w'=>r=.returned (.tuple #[])/\Cur w' b src e/\Mv b w w':=by
 have hsm:=hr.small;have H:=hid h;clear h;go_enter Tryz.func103,Tryz.ntmps103
 go_wp2;go_loopw [2] (fun _ wr=>∃a m:Nat,Cur wr b src a/\Mv b w wr/\Hid (Qg src m a=some e)) (fun _ wr=>3000-jc wr b)
 case atStart=>exact⟨k,n,hr,Mv.refl _ _,H⟩
 case round=>
  obtain⟨a,m,hrr,hmv,HB⟩:=hrel;have HAT:=hid (aE hrr)
  match m,HB with
  | 0,HB=>cases HB.out
  | m+1,HB=>
  have hB:=HB.out;unfold Qg at hB;have hle:=hrr.le;clear HB
  cases h35:saw src a 35
  .rw[h35,Qw (by simp)] at hB
   cases h10:saw src a 10
   .cases h59:saw src a 59
    .cases hb:isB src a
     .simp[h10,h59,hb] at hB;subst hB;go_wp2_with fail;refine(dk 35 hrr h35).mono ?_;rintro e w1 ⟨rfl,h1,m1⟩;go_wp2_with fail;refine(df 10 h1 h10).mono ?_;rintro e w2 ⟨rfl,h2,m2⟩;go_wp2_with fail;refine(df 59 h2 h59).mono ?_;rintro e w3 ⟨rfl,h3,m3⟩;go_wp2_with fail;refine(xC h3 hb).mono ?_;rintro e w4 ⟨rfl,h4,m4⟩;go_wp2_with fail;refine bodyPost_ret (results_none rfl _ _ _) rfl ?_;exact⟨rfl,h4,hmv.trans (m1.trans (m2.trans (m3.trans m4)))⟩
     .simp[h10,h59,hb] at hB;have hlt:=tp hb;have HB:=hid hB;clear hB;go_wp2_with fail;refine(dk 35 hrr h35).mono ?_;rintro e w1 ⟨rfl,h1,m1⟩;go_wp2_with fail;refine(df 10 h1 h10).mono ?_;rintro e w2 ⟨rfl,h2,m2⟩;go_wp2_with fail;refine(df 59 h2 h59).mono ?_;rintro e w3 ⟨rfl,h3,m3⟩;go_wp2_with fail;refine(xC h3 hb).mono ?_;rintro e w4 ⟨rfl,h4,m4⟩;go_wp2_with fail;go_round
      case rel=>exact⟨a+1,m,h4,hmv.trans (m1.trans (m2.trans (m3.trans m4))),HB⟩
      case measure=>rw[aE (show Cur w4 b src (a+1) from h4),HAT.out];omega
    .simp[h10,h59] at hB;have hlt:=aC h59;have HB:=hid hB;clear hB;go_wp2_with fail;refine(dk 35 hrr h35).mono ?_;rintro e w1 ⟨rfl,h1,m1⟩;go_wp2_with fail;refine(df 10 h1 h10).mono ?_;rintro e w2 ⟨rfl,h2,m2⟩;go_wp2_with fail;refine(df 59 h2 h59).mono ?_;rintro e w3 ⟨rfl,h3,m3⟩;go_wp2_with fail;go_round
     case rel=>exact⟨a+1,m,h3,hmv.trans (m1.trans (m2.trans m3)),HB⟩
     case measure=>rw[aE (show Cur w3 b src (a+1) from h3),HAT.out];omega
   .simp[h10] at hB;have hlt:=aC h10;have HB:=hid hB;clear hB;go_wp2_with fail;refine(dk 35 hrr h35).mono ?_;rintro e w1 ⟨rfl,h1,m1⟩;go_wp2_with fail;refine(df 10 h1 h10).mono ?_;rintro e w2 ⟨rfl,h2,m2⟩;go_wp2_with fail;go_round
    case rel=>exact⟨a+1,m,h2,hmv.trans (m1.trans m2),HB⟩
    case measure=>rw[aE (show Cur w2 b src (a+1) from h2),HAT.out];omega
  .rw[h35,QB rfl] at hB;obtain⟨a2,hc,hB⟩:=Option.bind_eq_some_iff.1 hB;have hgt:=OM hc h35;have HB:=hid hB;have HC:=hid hc;clear hB hc;go_wp2_with fail;refine(dk 35 hrr h35).mono ?_;rintro e w1 ⟨rfl,h1,m1⟩;go_wp2_with fail;refine(Kt h1 HC.out).mono ?_;rintro e w2 ⟨rfl,h2,m2⟩;have hle2:=h2.le;go_wp2_with fail;go_round
   case rel=>exact⟨a2,m,h2,hmv.trans (m1.trans m2),HB⟩
   case measure=>rw[aE h2,HAT.out];omega
end
section
variable {w w':World}{b k:Nat}{src:ByteArray}
def isW(s:ByteArray)(k:Nat):Bool:=if h:k<s.size then (decide (65<=(s[k]).toNat)&&decide ((s[k]).toNat<=90))||(decide (97<=(s[k]).toNat)&&decide ((s[k]).toNat<=122))||(decide (48<=(s[k]).toNat)&&decide ((s[k]).toNat<=57)) else false
theorem qq{s:ByteArray}{k:Nat}(h:isW s k=true):k<s.size:=by
 unfold isW at h;split at h
 .assumption
 .cases h
theorem ja{x y:Nat}{v:Bool}(h:decide (x<=y)=v):decide ((x:Int)<=(y:Int))=v:=by
 rw[<-h];simp
theorem eO(hr:Cur w b src k){v:Bool}(h:isW src k=v):Calls Tryz.prog 136 #[.pointer (some ⟨b,0,none⟩)] w fun e w'=>e=.returned (.bool v)/\Cur w' b src k/\Mv b w w':=by
 by_cases hk:k<src.size
 .have he:((k:Int)==(src.size:Int))=false:=by simp;omega
  rw[isW,dif_pos hk] at h;obtain⟨y,hy⟩:∃y:Nat,y=(src[k]).toNat:=⟨_,rfl⟩;rw[<-hy] at h;have HY:=hid hy;clear hy
  cases h1:decide (65<=y)<;>cases h2:decide (y<=90)<;>cases h3:decide (97<=y)<;>cases h4:decide (y<=122)<;>cases h5:decide (48<=y)<;>cases h6:decide (y<=57)<;>first
   | (exfalso;simp only[decide_eq_true_eq,decide_eq_false_iff_not] at h1 h2 h3 h4 h5 h6;omega)
   | (
    have g1:decide ((65:Int)<=(y:Int))=_:=ja h1;have g2:decide ((y:Int)<=90)=_:=ja h2;have g3:decide ((97:Int)<=(y:Int))=_:=ja h3;have g4:decide ((y:Int)<=122)=_:=ja h4;have g5:decide ((48:Int)<=(y:Int))=_:=ja h5;have g6:decide ((y:Int)<=57)=_:=ja h6;rw[h1,h2,h3,h4,h5,h6] at h;simp at h;clear h1 h2 h3 h4 h5 h6;subst h;go_enter Tryz.func136,Tryz.ntmps136
    go_wp2_with fail;refine(du hr he).mono ?_;rintro e w1 ⟨rfl,h1,m1⟩;have c0:=h1.c0;have c1:=h1.c1;have c5:(⟨src.data⟩:ByteArray)[k].toNat=y:=HY.out.symm;go_wp2_with fail;go_quiet (fail);go_wp2_with fail;go_ret
    exact⟨rfl,h1.drewN _,m1.trans (Mv.drewN _ _ _)⟩)
 .have he:((k:Int)==(src.size:Int))=true:=by have:=hr.le;simp;omega
  rw[isW,dif_neg hk] at h;subst h;go_enter Tryz.func136,Tryz.ntmps136
  go_wp2_with fail;refine(du hr he).mono ?_;rintro e w1 ⟨rfl,h1,m1⟩;go_wp2_with fail;go_ret;exact⟨rfl,h1,m1⟩
def wdN(s:ByteArray)(f:Nat):Nat->Nat->Option Nat
 | 0,_=>none
 | n+1,k=>if isW s k then (if k-f=8 then none else wdN s f n (k+1)) else if k=f then none else some k
theorem CF{n e:Nat}(hr:Cur w b src k)(h:wdN src (blk src k) n (blk src k)=some e):Calls Tryz.prog 134 #[.pointer (some ⟨b,0,none⟩)] w fun r w'=>r=.returned (.string (src.extract (blk src k) e))/\Cur w' b src e/\Mv b w w':=by
 have hsm:=hr.small;obtain⟨f,hf⟩:∃f,f=blk src k:=⟨_,rfl⟩;rw[<-hf] at h ⊢;have H:=hid h;have HF:=hid hf;clear h hf;go_enter Tryz.func134,Tryz.ntmps134
 go_wp2_with fail;refine(dS hr).mono ?_;rintro r w1 ⟨rfl,h1,m1⟩;rw[<-HF.out] at h1;have c1:=h1.c1;go_wp2_with fail;clear c1;go_loopw [11] (fun _ wr=>∃a m:Nat,f<=a/\Cur wr b src a/\Mv b w wr/\Hid (wdN src f m a=some e)) (fun _ wr=>3000-jc wr b)
 case atStart=>exact⟨f,n,QD _,h1,m1,H⟩
 case round=>
  obtain⟨a,m,hfa,hrr,hmv,HB⟩:=hrel;have HAT:=hid (aE hrr)
  match m,HB with
  | 0,HB=>cases HB.out
  | m+1,HB=>
  have hB:=HB.out;unfold wdN at hB;have hle:=hrr.le;clear HB
  cases hw:isW src a
  .rw[hw,Qw (by simp)] at hB;by_cases hx:a=f
   .rw[QB hx] at hB;cases hB
   .rw[Qw hx] at hB;injection hB with hB;subst hB;have hne:((a:Int)==(f:Int))=false:=by rw[Qz];omega
    go_wp2_with fail;refine(eO hrr hw).mono ?_;rintro r w2 ⟨rfl,h2,m2⟩;have c0:=h2.c0;have c1:=h2.c1;go_wp2_with fail;go_quiet (fail);go_wp2_with fail;go_ret;exact⟨rfl,h2.drewN _,hmv.trans (m2.trans (Mv.drewN _ _ _))⟩
  .rw[hw,QB rfl] at hB;have hlt:=qq hw;by_cases hx:a-f=8
   .rw[QB hx] at hB;cases hB
   .rw[Qw hx] at hB;obtain⟨d,hd⟩:∃d:Nat,(a:Int)-(f:Int)=(d:Int):=⟨a-f,by omega⟩;have wd:=aa d (by omega);have hne:((d:Int)==8)=false:=by rw[Qz];omega
    have HB:=hid hB;clear hB;go_wp2_with fail;refine(eO hrr hw).mono ?_;rintro r w2 ⟨rfl,h2,m2⟩;have c1:=h2.c1;have f1:=h2.free 1;go_wp2_with fail;go_round
    case rel=>exact⟨a+1,m,by omega,h2.step hlt,hmv.trans (m2.trans (Mv.step _ _ _)),HB⟩
    case measure=>rw[aE (h2.step hlt),HAT.out];omega
end
section
variable {w w':World}{b k:Nat}{src:ByteArray}
def isD(s:ByteArray)(k:Nat):Bool:=if h:k<s.size then decide (48<=(s[k]).toNat)&&decide ((s[k]).toNat<=57) else false
theorem tn{s:ByteArray}{k:Nat}(h:isD s k=true):∃hk:k<s.size,48<=(s[k]'hk).toNat/\(s[k]'hk).toNat<=57:=by
 unfold isD at h;split at h
 .rename_i hk;simp at h;exact⟨hk,h⟩
 .cases h
theorem dG(hr:Cur w b src k){v:Bool}(h:isD src k=v):Calls Tryz.prog 166 #[.pointer (some ⟨b,0,none⟩)] w fun e w'=>e=.returned (.bool v)/\Cur w' b src k/\Mv b w w':=by
 have c0:=hr.c0;have c1:=hr.c1;by_cases hk:k<src.size
 .have he:((k:Int)==(src.size:Int))=false:=by simp;omega
  rw[isD,dif_pos hk] at h;obtain⟨y,hy⟩:∃y:Nat,y=(src[k]).toNat:=⟨_,rfl⟩;rw[<-hy] at h;have c5:(⟨src.data⟩:ByteArray)[k].toNat=y:=hy.symm;clear hy
  cases h5:decide (48<=y)<;>cases h6:decide (y<=57)<;>first
   | (exfalso;simp only[decide_eq_true_eq,decide_eq_false_iff_not] at h5 h6;omega)
   | (
    have g5:decide ((48:Int)<=(y:Int))=_:=ja h5;have g6:decide ((y:Int)<=57)=_:=ja h6;rw[h5,h6] at h;simp at h;clear h5 h6;subst h;go_enter Tryz.func166,Tryz.ntmps166
    go_wp2;go_quiet ((go_at_call 104;exact Ki hr _));go_wp2;go_ret
    exact⟨rfl,hr.drewN _,Mv.drewN _ _ _⟩)
 .have he:((k:Int)==(src.size:Int))=true:=by have:=hr.le;simp;omega
  rw[isD,dif_neg hk] at h;subst h;go_enter Tryz.func166,Tryz.ntmps166
  go_wp2;go_quiet ((go_at_call 104;exact Ki hr _));go_wp2;go_ret;exact⟨rfl,hr.drewN _,Mv.drewN _ _ _⟩
def dgt(s:ByteArray)(k:Nat):Nat:=if h:k<s.size then (s[k]).toNat-48 else 0
def Nu(s:ByteArray)(lo hi f:Nat):Nat->Nat->Nat->Option (Nat×Nat)
 | 0,_,_=>none
 | n+1,v,k=>if isD s k then (if (v=0/\f<k)\/10*v+dgt s k<lo\/hi<10*v+dgt s k then none else Nu s lo hi f n (10*v+dgt s k) (k+1)) else some (v,k)
theorem uJ{n lo hi x e:Nat}(hr:Cur w b src k)(hhi:hi<=1000000)(h:Nu src lo hi k n 0 k=some (x,e)):Calls Tryz.prog 146 #[.pointer (some ⟨b,0,none⟩),.int .i64 lo,.int .i64 hi] w fun r w'=>r=.returned (.int .i64 x)/\Cur w' b src e/\Mv b w w':=by
 have hsm:=hr.small;have c1:=hr.c1;have H:=hid h;clear h;go_enter Tryz.func146,Tryz.ntmps146
 go_wp2_with fail;clear c1;go_loopw [7] (fun y wr=>∃v a m:Nat,y=.int .i64 v/\v<=1000000/\k<=a/\Cur wr b src a/\Mv b w wr/\Hid (Nu src lo hi k m v a=some (x,e))) (fun _ wr=>3000-jc wr b)
 case atStart=>exact⟨0,k,n,rfl,by omega,QD _,hr,Mv.refl _ _,H⟩
 case round=>
  obtain⟨v,a,m,rfl,hv,hka,hrr,hmv,HB⟩:=hrel;have HAT:=hid (aE hrr)
  match m,HB with
  | 0,HB=>cases HB.out
  | m+1,HB=>
  have hB:=HB.out;unfold Nu at hB;clear HB
  cases hd:isD src a
  .rw[hd,Qw (by simp)] at hB;injection hB with hB;injection hB with hB1 hB2;subst hB1 hB2;go_wp2_with fail;refine(dG hrr hd).mono ?_;rintro r w2 ⟨rfl,h2,m2⟩;go_wp2_with fail;go_ret;exact⟨rfl,h2,hmv.trans m2⟩
  .rw[hd,QB rfl] at hB;obtain⟨hlt,hd1,hd2⟩:=tn hd;have hdg:dgt src a=(src[a]).toNat-48:=by unfold dgt;rw[dif_pos hlt]
   obtain⟨y,hy⟩:∃y:Nat,y=(src[a]).toNat:=⟨_,rfl⟩;have c5:(⟨src.data⟩:ByteArray)[a].toNat=y:=hy.symm;rw[<-hy] at hdg hd1 hd2;obtain⟨d,hde⟩:∃d:Nat,d=dgt src a:=⟨_,rfl⟩;rw[<-hde] at hB hdg;split at hB
   .cases hB
   .rename_i hno;have hn1:¬(v=0/\k<a):=fun q=>hno (.inl q);have hn2:¬(10*v+d<lo):=fun q=>hno (.inr (.inl q));have hn3:¬(hi<10*v+d):=fun q=>hno (.inr (.inr q));obtain⟨t,ht⟩:∃t:Nat,t=10*v:=⟨_,rfl⟩;obtain⟨u,hu⟩:∃u:Nat,u=10*v+d:=⟨_,rfl⟩;have e1:(10:Int)*(v:Int)=(t:Int):=by omega
    have e2:(y:Int)-48=(d:Int):=by omega
    have e3:(t:Int)+(d:Int)=(u:Int):=by omega
    have q1:=aa t (by omega);have q2:IntKind.u8.wrap (d:Int)=(d:Int):=by rw[IntKind.wrap_u8];omega
    have q4:=aa d (by omega);have q3:=aa u (by omega);have g2:¬u<lo:=by omega
    have g3:¬hi<u:=by omega
    rw[<-hu] at hB;have HB2:=hid hB;have HU:Hid (u<=1000000):=hid (by omega);have HD:Hid _:=hd;by_cases hv0:v=0
    .have hka2:a=k:=by omega
     have hud:u=d:=by omega
     clear hB hn2 hn3 hno hde hdg ht hu hy;subst hka2;subst hv0;subst hud;go_wp2_with fail;refine(dG hrr HD.out).mono ?_;rintro r w2 ⟨rfl,h2,m2⟩;have c0:=h2.c0;have c1:=h2.c1;have f1:=h2.free 1;go_wp2_with fail;go_quiet (fail);go_wp2_with fail;go_round
     case rel=>exact⟨u,a+1,m,rfl,HU.out,by omega,(h2.drewN _).step hlt,hmv.trans (m2.trans ((Mv.drewN _ _ _).trans (Mv.step _ _ _))),HB2⟩
     case measure=>rw[aE ((h2.drewN _).step hlt),HAT.out];omega
    .have g0:((v:Int)==0)=false:=by rw[Qz];omega
     clear hB hn2 hn3 hno hde hdg ht hu hy;go_wp2_with fail;refine(dG hrr HD.out).mono ?_;rintro r w2 ⟨rfl,h2,m2⟩;have c0:=h2.c0;have c1:=h2.c1;have f1:=h2.free 1;go_wp2_with fail;go_quiet (fail);go_wp2_with fail;go_round
     case rel=>exact⟨u,a+1,m,rfl,HU.out,by omega,(h2.drewN _).step hlt,hmv.trans (m2.trans ((Mv.drewN _ _ _).trans (Mv.step _ _ _))),HB2⟩
     case measure=>rw[aE ((h2.drewN _).step hlt),HAT.out];omega
def isA(s:ByteArray)(k:Nat):Bool:=isD s k||saw s k 36||saw s k 47
theorem eW(hr:Cur w b src k){v:Bool}(h:isA src k=v):Calls Tryz.prog 167 #[.pointer (some ⟨b,0,none⟩)] w fun e w'=>e=.returned (.bool v)/\Cur w' b src k/\Mv b w w':=by
 cases hd:isD src k
 .cases h36:saw src k 36
  .have h47:saw src k 47=v:=by rw[<-h];simp[isA,hd,h36]
   go_enter Tryz.func167,Tryz.ntmps167
   go_wp2_with fail;refine(dG hr hd).mono ?_;rintro r w1 ⟨rfl,h1,m1⟩;go_wp2_with fail;refine(dk 36 h1 h36).mono ?_;rintro r w2 ⟨rfl,h2,m2⟩;go_wp2_with fail;refine(dk 47 h2 h47).mono ?_;rintro r w3 ⟨rfl,h3,m3⟩
   cases v<;>(go_wp2_with fail;go_ret;exact⟨rfl,h3,m1.trans (m2.trans m3)⟩)
  .obtain rfl:v=true:=by rw[<-h];simp[isA,h36]
   go_enter Tryz.func167,Tryz.ntmps167
   go_wp2_with fail;refine(dG hr hd).mono ?_;rintro r w1 ⟨rfl,h1,m1⟩;go_wp2_with fail;refine(dk 36 h1 h36).mono ?_;rintro r w2 ⟨rfl,h2,m2⟩;go_wp2_with fail;go_ret;exact⟨rfl,h2,m1.trans m2⟩
 .obtain rfl:v=true:=by rw[<-h];simp[isA,hd]
  go_enter Tryz.func167,Tryz.ntmps167
  go_wp2_with fail;refine(dG hr hd).mono ?_;rintro r w1 ⟨rfl,h1,m1⟩;go_wp2_with fail;go_ret;exact⟨rfl,h1,m1⟩
def iD(s:ByteArray)(k:Nat):Bool:=decide (k=s.size)||saw s k 10||saw s k 59||saw s k 35||saw s k 125
theorem end_v(hr:Cur w b src k)(h:iD src (blk src k)=true):Calls Tryz.prog 153 #[.pointer (some ⟨b,0,none⟩)] w fun r w'=>r=.returned (.tuple #[])/\Cur w' b src (blk src k)/\Mv b w w':=by
 obtain⟨f,hf⟩:∃f,f=blk src k:=⟨_,rfl⟩;rw[<-hf] at h ⊢;have HF:=hid hf;clear hf;go_enter Tryz.func153,Tryz.ntmps153
 go_wp2_with fail;refine(dS hr).mono ?_;rintro r w1 ⟨rfl,h1,m1⟩;rw[<-HF.out] at h1;have hle:=h1.le;by_cases hx:f=src.size
 .have he:((f:Int)==(src.size:Int))=true:=by simp;omega
  go_wp2_with fail;refine(du h1 he).mono ?_;rintro r w2 ⟨rfl,h2,m2⟩;go_wp2_with fail;go_end0;exact⟨rfl,h2,m1.trans m2⟩
 .have he:((f:Int)==(src.size:Int))=false:=by simp;omega
  rw[iD,decide_eq_false hx] at h;clear hx
  cases h10:saw src f 10
  .cases h59:saw src f 59
   .cases h35:saw src f 35
    .have h125:saw src f 125=true:=by rw[h10,h59,h35] at h;simpa using h
     go_wp2_with fail;refine(du h1 he).mono ?_;rintro r w2 ⟨rfl,h2,m2⟩;go_wp2_with fail;refine(dk 10 h2 h10).mono ?_;rintro r w3 ⟨rfl,h3,m3⟩;go_wp2_with fail;refine(dk 59 h3 h59).mono ?_;rintro r w4 ⟨rfl,h4,m4⟩;go_wp2_with fail;refine(dk 35 h4 h35).mono ?_;rintro r w5 ⟨rfl,h5,m5⟩;go_wp2_with fail;refine(dk 125 h5 h125).mono ?_;rintro r w6 ⟨rfl,h6,m6⟩;go_wp2_with fail;go_end0;exact⟨rfl,h6,m1.trans (m2.trans (m3.trans (m4.trans (m5.trans m6))))⟩
    .go_wp2_with fail;refine(du h1 he).mono ?_;rintro r w2 ⟨rfl,h2,m2⟩;go_wp2_with fail;refine(dk 10 h2 h10).mono ?_;rintro r w3 ⟨rfl,h3,m3⟩;go_wp2_with fail;refine(dk 59 h3 h59).mono ?_;rintro r w4 ⟨rfl,h4,m4⟩;go_wp2_with fail;refine(dk 35 h4 h35).mono ?_;rintro r w5 ⟨rfl,h5,m5⟩;go_wp2_with fail;go_end0;exact⟨rfl,h5,m1.trans (m2.trans (m3.trans (m4.trans m5)))⟩
   .go_wp2_with fail;refine(du h1 he).mono ?_;rintro r w2 ⟨rfl,h2,m2⟩;go_wp2_with fail;refine(dk 10 h2 h10).mono ?_;rintro r w3 ⟨rfl,h3,m3⟩;go_wp2_with fail;refine(dk 59 h3 h59).mono ?_;rintro r w4 ⟨rfl,h4,m4⟩;go_wp2_with fail;go_end0;exact⟨rfl,h4,m1.trans (m2.trans (m3.trans m4))⟩
  .go_wp2_with fail;refine(du h1 he).mono ?_;rintro r w2 ⟨rfl,h2,m2⟩;go_wp2_with fail;refine(dk 10 h2 h10).mono ?_;rintro r w3 ⟨rfl,h3,m3⟩;go_wp2_with fail;go_end0;exact⟨rfl,h3,m1.trans (m2.trans m3)⟩
end
end Go.Proofs.YtiahkfoojjpaaaaGreatDoor
namespace Go.Proofs.YtiahkfoojjpaaaaGreatDoor
open Go.RowKit Go.MapKept
section
variable {P:Program}{w:World}{t k e:TypeId}{b c:Nat}{es:Array MapEntry}{x:Int}{v:Value}
theorem Kp.setBlock(w:World)(b:Nat)(o:Obj):Kp [b] w (ChangeMaps.setBlock w b o):=
 ⟨rfl,rfl,rfl,by simp[ChangeMaps.setBlock],fun j hj hn=>by
   simp only[ChangeMaps.setBlock]
   rw[Array.getElem?_setIfInBounds_ne (by simpa using fun e:b=j=>hn (by simp[e]))]⟩
theorem MI(ht:P.underlying t=some (.map k e))(hk:P.underlying k=some (.int .u8))(hb:w.heap[b]? = some (.map es c))(hf:Instr.findNow (.int .u8) (.int .u8 x) es.toList 0=some none):(Instr.mapUpdate t (.map (some b)) (.int .u8 x) v).run P w=.ok () (ChangeMaps.setBlock w b (.map (es.push ⟨.int .u8 x,v,c⟩) (c+1))):=by
 have hkey:IsKey (.int .u8) (.int .u8 x):=by simp[IsKey]
 simp[Instr.mapUpdate,run_underlying ht,MapKept.run_getObj_map hb,run_checkKey hk hkey,run_findKey hk hf,MapKept.run_setObj_map _ hb,Result.andThen,ChangeMaps.setBlock]
theorem oX{ops:Array Oper}{rest:List Oper}{o:Oper}{a:Act}{Q:Exit->Act->World->Prop}(hg:o.guard=none)(s kk vv:Operand)(t:TypeId)(hop:o.op=Op.insert t s kk vv)(k e:TypeId)(ht:P.underlying t=some (.map k e))(hk:P.underlying k=some (.int .u8))(b:Nat)(es:Array MapEntry)(c:Nat)(x:Int)(hs:a.eval s=.map (some b))(hx:a.eval kk=.int .u8 x)(hb:w.heap[b]? = some (.map es c))(hf:Instr.findNow (.int .u8) (.int .u8 x) es.toList 0=some none)(h:∀w',w'.heap[b]? = some (.map (es.push ⟨.int .u8 x,a.eval vv,c⟩) (c+1))->Kp [b] w w'->wpList P ops Q rest (a.put o.dst undef) w'):wpList P ops Q (o::rest) a w:=
 wpList_plain hg fun _ hK=>by
  have hl:b<w.heap.size:=(Array.getElem?_eq_some_iff.1 hb).1;have:=MI (v:=a.eval vv) ht hk hb hf;unfold Oper.wp;simp[execOp,hop,hs,hx,this,Result.andThen];refine hK _ _ (h _ ?_ (Kp.setBlock _ _ _));simp[ChangeMaps.setBlock,hl]
theorem gN{ops:Array Oper}{rest:List Oper}{o:Oper}{a:Act}{Q:Exit->Act->World->Prop}(hg:o.guard=none)(t:TypeId)(hop:o.op=Op.makeMap t none)(h:wpList P ops Q rest (a.put o.dst (.map (some w.heap.size))) (w.alloc (.map #[] 0))):wpList P ops Q (o::rest) a w:=
 wpList_plain hg fun _ hK=>by
  unfold Oper.wp;simp[execOp,hop,Instr.makeMap,newObj,Sem.run,Result.andThen];exact hK _ _ h
end
def uj:Nat->List (Nat×Nat)->List MapEntry
 | _,[]=>[]
 | c,(x,f)::l=>⟨.int .u8 x,.func (.func f) #[] #[],c⟩::uj (c+1) l
def tabO(l:List (Nat×Nat)):Obj:=.map (uj 0 l).toArray l.length
abbrev opsL:List (Nat×Nat):=[(123,92),(125,93),(58,94),(98,95),(116,95),(97,96),(105,96),(99,96),(115,97),(121,98),(113,99),(119,100),(100,101),(68,101),(103,101),(71,101),(104,101),(72,101),(120,101),(110,101),(78,101),(112,101),(80,101),(108,101),(61,101)]
abbrev iZ:List (Nat×Nat):=[(123,57),(98,58),(116,59),(97,60),(105,61),(99,62),(115,63),(121,64),(100,65),(68,66),(103,67),(71,68),(104,69),(72,70),(120,71),(110,72),(78,73),(112,74),(80,75),(108,76),(61,77),(113,78),(119,79)]
theorem yI(w:World):Calls Tryz.prog 51 #[] w fun e w'=>e=.returned (.map (some w.heap.size))/\w'.heap[w.heap.size]? = some (tabO opsL)/\Kp [] w w':=by
 have hb:(w.alloc (.map #[] 0)).heap[w.heap.size]? = some (.map #[] 0):=by show(w.heap.push _)[w.heap.size]? = _;simp
 have hkk:Kp [w.heap.size] w (w.alloc (.map #[] 0)):=Kp.alloc _ _ _;go_enter Tryz.func51,Tryz.ntmps51
 go_wp2_with (first|(refine gN rfl 122 rfl ?_)|(refine oX rfl _ _ _ 122 rfl 5 161 Tryz.underlying122 Tryz.underlying5 w.heap.size _ _ _ rfl rfl hb (by kernel_rfl) ?_;clear hb;intro w1 hb hk;have hkk:=hkk.trans hk;clear hk))
 go_ret;exact⟨rfl,hb.trans (by kernel_rfl),hkk.own (QD _)⟩
theorem Ko(w:World):Calls Tryz.prog 40 #[] w fun e w'=>e=.returned (.map (some w.heap.size))/\w'.heap[w.heap.size]? = some (tabO iZ)/\Kp [] w w':=by
 have hb:(w.alloc (.map #[] 0)).heap[w.heap.size]? = some (.map #[] 0):=by show(w.heap.push _)[w.heap.size]? = _;simp
 have hkk:Kp [w.heap.size] w (w.alloc (.map #[] 0)):=Kp.alloc _ _ _;go_enter Tryz.func40,Tryz.ntmps40
 go_wp2_with (first|(refine gN rfl 95 rfl ?_)|(refine oX rfl _ _ _ 95 rfl 5 134 Tryz.underlying95 Tryz.underlying5 w.heap.size _ _ _ rfl rfl hb (by kernel_rfl) ?_;clear hb;intro w1 hb hk;have hkk:=hkk.trans hk;clear hk))
 go_ret;exact⟨rfl,hb.trans (by kernel_rfl),hkk.own (QD _)⟩
end Go.Proofs.YtiahkfoojjpaaaaGreatDoor
namespace Go.Proofs.YtiahkfoojjpaaaaGreatDoor
open Go.RowKit
theorem aN{w:World}{g:Nat}{o:Obj}(h:w.heap[g]? = some o):g<w.heap.size:=(Array.getElem?_eq_some_iff.1 h).1
theorem jY{w:World}{base B size n:Nat}{e:TypeId}{v:Value}{xs:List Value}(h:w.ownsRow base e size v n xs)(hB:B<=base):w.ownsRow B e size v n xs:=by
 refine⟨h.1,?_⟩;rcases h.2 with q|⟨g,cap,cur,q1,q2,q3⟩
 .exact .inl q
 .exact .inr ⟨g,cap,cur,q1,QC hB q2,q3⟩
theorem ag{w w':World}{base size n:Nat}{e:TypeId}{v:Value}{xs:List Value}(h:w.ownsRow base e size v n xs)(hb:∀k,v.ownBlock=some k->w'.heap[k]? = w.heap[k]?):w'.ownsRow base e size v n xs:=by
 refine⟨h.1,?_⟩;rcases h.2 with q|⟨g,cap,cur,q1,q2,q3,q4⟩
 .exact .inl q
 .exact .inr ⟨g,cap,cur,q1,q2,(hb g (by rw[q1];rfl)).trans q3,q4⟩
theorem aA{w:World}{base size n:Nat}{e:TypeId}{v:Value}{xs:List Value}{g:Nat}(h:w.ownsRow base e size v n xs)(hg:v.ownBlock=some g):base<=g/\g<w.heap.size:=by
 rcases h.2 with⟨q,_⟩|⟨g',cap,cur,q1,q2,q3,_⟩
 .rw[q] at hg;cases hg
 .rw[q1] at hg;injection hg with hg;subst hg;exact⟨q2,aN q3⟩
theorem aZ{w:World}{base size n:Nat}{e:TypeId}{v:Value}{xs:List Value}(h:w.ownsRow base e size v n xs):∃A c,v=.slice A n c/\(A=none->n=0)/\∀ad,A=some ad->∃g,ad=⟨g,0,none⟩:=by
 rcases h.2 with⟨q,q2⟩|⟨g,cap,cur,q1,_⟩
 .refine⟨none,0,by rw[q,q2],fun _=>q2,fun _ h=>?_⟩
  cases h
 .refine⟨some ⟨g,0,none⟩,cap,q1,fun h=>?_,fun ad h=>⟨g,?_⟩⟩
  .cases h
  .injection h with h;exact h.symm
theorem Iz{P:Program}{w:World}{base:Nat}{t ty e:TypeId}{i:TypeInfo}{z:Value}{size bytes:Nat}(ht:P.underlying t=some (.slice e))(hi:P.info? e=some i)(hz:i.zero=some z)(hsize:i.size=size)(hby:i.bytes=bytes)(hzs:z.cells.size=size)(hsz:0<size){v:Value}{n:Nat}{xs:List Value}(hown:w.ownsRow base e size v n xs){a:Addr}{m c:Nat}{news:List Value}(hl:news.length=m*size)(hnews:∀j u,news[j]? = some u->w.cell? (a.add j)=some u)(h1:∀u∈news,u.oneCell'=true)(h63:n+m<=maxLen)(hbytes:(n+m)*bytes<=140737488355328)(hbase:base<=w.heap.size)(hm:0<m):∃g cap w',(Builtin.append_ #[t,t] ty #[v,.slice (some a) m c]).run P w=.ok (.slice (some ⟨g,0,none⟩) (n+m) cap) w'/\w'.ownsRow base e size (.slice (some ⟨g,0,none⟩) (n+m) cap) (n+m) (xs++news)/\w.grownBy w' v.ownBlock /\ (v.ownBlock=some g\/w.heap.size<=g):=by
 rcases hown.2 with⟨hv,hn⟩|⟨g,cap,cur,hv,hbg,hg,hnc,hcm,hcs,htake⟩
 .subst hv;subst hn;have hxs:xs=[]:=Rb (by simpa using hown.1);subst hxs;obtain⟨v',w',hrun,r1,r2,_⟩:=run_append_own (P:=P) w w.heap.size t ty e i z size bytes ht hi hz hsize hby hzs hsz (.slice none 0 0) 0 [] (World.ownsRow_nil w _ e size) a m c news hl hnews h1 h63 hbytes (QD _);rcases r1.2 with⟨_,h0⟩|⟨g,cap,cur,hv',hbg,_⟩
  .omega
  .subst hv';exact⟨g,cap,w',hrun,jY r1 hbase,r2,.inr hbg⟩
 .subst hv;by_cases hroom:n+m<=cap
  .obtain⟨w',hrun,r1,r2⟩:=run_append_fits (P:=P) w base t ty e i size ht hi hsize g n cap xs hown a m c news hl hnews h1 hroom;exact⟨g,cap,w',hrun,r1,r2,.inl rfl⟩
  .have hcell:∀j u,xs[j]? = some u->w.cell? ((⟨g,0,none⟩:Addr).add j)=some u:=fun j u hu=>by
    have hj:j<n*size:=by rw[<-hown.1];exact(List.getElem?_eq_some_iff.1 hu).1
    rw[Addr.add_mid,QH,hown.cellAt j hj];exact hu
   obtain⟨v',w',hrun,r1,r2⟩:=run_append_arg_grows (P:=P) w t ty e i z size bytes ht hi hz hsize hby hzs hsz ⟨g,0,none⟩ n cap xs hown.1 hcell a m c news hl hnews (by omega) h63 hbytes;rcases r1.2 with⟨_,h0⟩|⟨g',cap',cur',hv',hbg',_⟩
   .omega
   .subst hv';exact⟨g',cap',w',hrun,jY r1 hbase,⟨r2.os,r2.tape,r2.output,r2.size,fun k hk _=>r2.block k hk (by simp)⟩,.inr hbg'⟩
theorem dP{P:Program}{ops:Array Oper}{rest:List Oper}{o:Oper}{a:Act}{w:World}{Q:Exit->Act->World->Prop}(hgd:o.guard=none)(s x:Operand)(t:TypeId)(hop:o.op=Op.call { callee:=Callee.builtin Builtin.append,args:=#[s,x],argTypes:=#[t,t]})(base:Nat)(e:TypeId)(i:TypeInfo)(z:Value)(size bytes:Nat)(h1:P.underlying t=some (.slice e))(h2:P.info? e=some i)(h3:i.zero=some z)(h4:i.size=size)(h5:i.bytes=bytes)(h6:z.cells.size=size)(h7:0<size)(v:Value)(n:Nat)(xs:List Value)(hs:a.eval s=v)(hown:w.ownsRow base e size v n xs)(ad:Addr)(m c:Nat)(news:List Value)(hx:a.eval x=.slice (some ad) m c)(hn:news.length=m*size)(hc:∀j u,news[j]? = some u->w.cell? (ad.add j)=some u)(h1c:∀u∈news,u.oneCell'=true)(b1:n+m<=maxLen)(b2:(n+m)*bytes<=140737488355328)(hbase:base<=w.heap.size)(hm:0<m)(h:∀g cap w',w'.ownsRow base e size (.slice (some ⟨g,0,none⟩) (n+m) cap) (n+m) (xs++news)->w.grownBy w' v.ownBlock->(v.ownBlock=some g\/w.heap.size<=g)->wpList P ops Q rest (a.put o.dst (.slice (some ⟨g,0,none⟩) (n+m) cap)) w'):wpList P ops Q (o::rest) a w:=
 wpList_plain hgd fun _ hK=>by
  obtain⟨g,cap,w',hrun,r1,r2,r3⟩:=Iz (P:=P) (ty:=o.type) h1 h2 h3 h4 h5 h6 h7 hown hn hc h1c b1 b2 hbase hm (c:=c);unfold Oper.wp;simp[execOp,hop,resolve,invoke,builtin,hs,hx,hrun,Result.andThen];exact hK _ _ (h g cap w' r1 r2 r3)
abbrev Bk:=Nat->Option Nat
structure Bk.ok(lo hi:Nat)(f:Bk):Prop where
 lo:∀i p,f i=some p->lo<=p
 hi:∀i p,f i=some p->p<hi
 ne:∀i j p,f i=some p->f j=some p->i=j
theorem Bk.ok.upd{lo hi hi':Nat}{f:Bk}(h:Bk.ok lo hi f)(i g:Nat)(hh:hi<=hi')(hl:lo<=hi)(hg:f i=some g\/(hi<=g/\g<hi')):Bk.ok lo hi' (fun j=>if j=i then some g else f j):=by
 have hg1:lo<=g/\g<hi':=by
  rcases hg with q|q
  .exact⟨h.lo i g q,Qx (h.hi i g q) hh⟩
  .exact⟨QC hl q.1,q.2⟩
 have hne:∀j,j≠i->f j≠some g:=fun j hj e=>by
  rcases hg with q|q
  .exact hj (h.ne j i g e q)
  .have:=h.hi j g e;omega
 refine⟨fun j p hp=>?_,fun j p hp=>?_,fun j k p hj hk=>?_⟩
 .split at hp
  .injection hp with e;omega
  .exact h.lo j p hp
 .split at hp
  .injection hp with e;omega
  .exact Qx (h.hi j p hp) hh
 .split at hj<;>split at hk
  .omega
  .injection hj with e;exact absurd (e ▸ hk) (hne k (by assumption))
  .injection hk with e;exact absurd (e ▸ hj) (hne j (by assumption))
  .exact h.ne j k p hj hk
theorem Bk.ok.grow{lo hi hi':Nat}{f:Bk}(h:Bk.ok lo hi f)(hh:hi<=hi'):Bk.ok lo hi' f:=⟨h.lo,fun i p hp=>Qx (h.hi i p hp) hh,h.ne⟩
def lY:Nat->List (ByteArray×Nat)->List MapEntry
 | _,[]=>[]
 | c,(x,n)::l=>⟨.string x,.int .i64 n,c⟩::lY (c+1) l
def Py(l:List (ByteArray×Nat)):Obj:=.map (lY 0 l).toArray l.length
structure Sst where
 quiet:Bool
 vc:Value
 cs:List (List Value)
 vn:Value
 ns:List ByteArray
 ranges:Nat
 ob:Nat
 lb:Nat
 nb:Nat
 vb:Value
 bs:List Nat
 vg:Value
 gs:List (Nat×Nat)
 ls:List (ByteArray×Nat)
 nm:List (ByteArray×Nat)
 fs:List (Nat×Obj)
structure Small(σ:Sst)(n:Nat):Prop where
 ns:σ.ns.length<=n
 bs:σ.bs.length<=n
 gs:σ.gs.length<=n
def srB(b:Nat)(σ:Sst):Bk
 | 0=>some b
 | 1=>some σ.ob
 | 2=>some σ.lb
 | 3=>some σ.nb
 | 4=>σ.vc.ownBlock
 | 5=>σ.vn.ownBlock
 | 6=>σ.vb.ownBlock
 | 7=>σ.vg.ownBlock
 | _=>none
structure SrC(w:World)(b:Nat)(σ:Sst):Prop where
 c2:w.cell? ⟨b,2,none⟩=some (.int .i64 4)
 c3:w.cell? ⟨b,3,none⟩=some (.bool σ.quiet)
 c4:w.cell? ⟨b,4,none⟩=some σ.vc
 c5:w.cell? ⟨b,5,none⟩=some σ.vn
 c6:w.cell? ⟨b,6,none⟩=some (.int .i64 σ.ranges)
 c7:w.cell? ⟨b,7,none⟩=some (.map (some σ.ob))
 c8:w.cell? ⟨b,8,none⟩=some σ.vb
 c9:w.cell? ⟨b,9,none⟩=some (.map (some σ.lb))
 c10:w.cell? ⟨b,10,none⟩=some (.map (some σ.nb))
 c11:w.cell? ⟨b,11,none⟩=some σ.vg
structure SrR(w0 w:World)(b:Nat)(σ:Sst):Prop where
 kp:Kp [] w0 w
 o4:w.ownsRow w0.heap.size 93 23 σ.vc σ.cs.length σ.cs.flatten
 o5:w.ownsRow w0.heap.size 9 1 σ.vn σ.ns.length (σ.ns.map .string)
 o8:w.ownsRow w0.heap.size 3 1 σ.vb σ.bs.length (σ.bs.map fun n:Nat=>Value.int .i64 (n:Int))
 o11:w.ownsRow w0.heap.size 164 2 σ.vg σ.gs.length (σ.gs.flatMap fun p:Nat×Nat=>[Value.int .i64 (p.1:Int),.int .i64 (p.2:Int)])
 m7:w.heap[σ.ob]? = some (tabO opsL)
 m9:w.heap[σ.lb]? = some (Py σ.ls)
 m10:w.heap[σ.nb]? = some (Py σ.nm)
 len:∀c∈σ.cs,c.length=23/\∀u∈c,u.oneCell'=true
 bk:Bk.ok w0.heap.size w.heap.size (srB b σ)
 fx:∀f∈σ.fs,w.heap[f.1]? = some f.2/\w0.heap.size<=f.1/\∀i,srB b σ i≠some f.1
section
variable {w0 w w':World}{b:Nat}{σ:Sst}
theorem SrC.aj(h:SrC w b σ)(hc:∀j,2<=j->w'.cell? ⟨b,j,none⟩=w.cell? ⟨b,j,none⟩):SrC w' b σ:=
 ⟨(hc _ (by omega)).trans h.c2,(hc _ (by omega)).trans h.c3,(hc _ (by omega)).trans h.c4,(hc _ (by omega)).trans h.c5,(hc _ (by omega)).trans h.c6,(hc _ (by omega)).trans h.c7,(hc _ (by omega)).trans h.c8,(hc _ (by omega)).trans h.c9,(hc _ (by omega)).trans h.c10,(hc _ (by omega)).trans h.c11⟩
theorem SrR.aj{S:List Nat}(h:SrR w0 w b σ)(k:Kp S w w')(hS:∀x∈S,w0.heap.size<=x/\(∀i,0<i->srB b σ i≠some x)/\∀f∈σ.fs,f.1≠x):SrR w0 w' b σ:=by
 have hh:∀i p,0<i->srB b σ i=some p->w'.heap[p]? = w.heap[p]?:=fun i p hi hp=>k.block p (h.bk.hi i p hp) (fun e=>(hS p e).2.1 i hi hp);refine⟨⟨k.os.trans h.kp.os,k.tape.trans h.kp.tape,k.output.trans h.kp.output,QC h.kp.size k.size,fun j hj _=>(k.block j (Qx hj h.kp.size) (fun e=>by have:=(hS j e).1;omega)).trans (h.kp.block j hj (by simp))⟩,ag h.o4 (fun p hp=>hh 4 p (by omega) hp),ag h.o5 (fun p hp=>hh 5 p (by omega) hp),ag h.o8 (fun p hp=>hh 6 p (by omega) hp),ag h.o11 (fun p hp=>hh 7 p (by omega) hp),(hh 1 _ (by omega) rfl).trans h.m7,(hh 2 _ (by omega) rfl).trans h.m9,(hh 3 _ (by omega) rfl).trans h.m10,h.len,h.bk.grow k.size,fun f hf=>?_⟩;obtain⟨h1,h2,h3⟩:=h.fx f hf;exact⟨(k.block f.1 (aN h1) (fun e=>(hS f.1 e).2.2 f hf rfl)).trans h1,h2,h3⟩
structure Sr(w0 w:World)(b:Nat)(src:ByteArray)(k:Nat)(σ:Sst):Prop where
 cur:Cur w b src k
 c:SrC w b σ
 r:SrR w0 w b σ
variable {src:ByteArray}{k k':Nat}
theorem Sr.move(h:Sr w0 w b src k σ)(m:Mv b w w')(hc:Cur w' b src k'):Sr w0 w' b src k' σ:=
 ⟨hc,h.c.aj (fun j hj=>m.same j (by omega)),h.r.aj m.kp (fun x hx=>by
   simp at hx;subst hx
   exact⟨h.r.bk.lo 0 x rfl,fun i hi e=>by have:=h.r.bk.ne i 0 x e rfl;omega,fun f hf e=>(h.r.fx f hf).2.2 0 (by rw[e];rfl)⟩)⟩
structure Sr.Far(w0:World)(b:Nat)(σ:Sst)(x:Nat):Prop where
 lo:w0.heap.size<=x
 bk:∀i,srB b σ i≠some x
 fx:∀f∈σ.fs,f.1≠x
theorem Sr.other{S:List Nat}(h:Sr w0 w b src k σ)(q:Kp S w w')(hS:∀x∈S,Sr.Far w0 b σ x):Sr w0 w' b src k σ:=by
 have hb:b∉S:=fun e=>(hS b e).bk 0 rfl;exact⟨h.cur.aj q hb,h.c.aj (fun j _=>q.cell (p:=⟨b,j,none⟩) h.cur.lt hb),h.r.aj q (fun x hx=>⟨(hS x hx).lo,fun i _=>(hS x hx).bk i,(hS x hx).fx⟩)⟩
theorem Sr.aj(h:Sr w0 w b src k σ)(q:Kp [] w w'):Sr w0 w' b src k σ:=h.other q (fun _ e=>by cases e)
theorem Sr.eh(h:Sr w0 w b src k σ){x:Nat}(hx:w.heap.size<=x):Sr.Far w0 b σ x:=
 ⟨QC h.r.kp.size hx,fun i e=>by have:=h.r.bk.hi i x e;omega,fun f hf e=>by have:=aN (h.r.fx f hf).1;omega⟩
end
theorem eX{P:Program}{fn:Func}{p:Tmp}{ty:TypeId}(h:fn.results=#[.cell p ty])(tmps:Array Value)(w:World)(b o:Nat)(ht:tmps.getD p undef=.pointer (some ⟨b,o,none⟩))(cs:List Value)(d:TypeDesc)(hc:w.rangeAt b o cs)(hu:P.underlying ty=some d)(hd:d.isRow=true)(hi:(P.info? ty).map (·.size)=some cs.length):(results fn tmps).run P w=.ok (.agg cs.toArray) w:=by
 have hl:=run_loadVar_mid (P:=P) w b o ty cs d hc hu hd hi;have ht':tmps[p]?.getD undef=.pointer (some ⟨b,o,none⟩):=by simpa using ht
 simp only[results,h];simp[ht',asAddr,hl]
theorem Tryz.pJ:(Tryz.prog.info? 132).map (·.size)=some 4:=by kernel_rfl
theorem dV{S:List Nat}{b:Nat}(hb:b∈S):∀(vs:List Value) (o:Nat) (w:World),Kp S w (w.setCells b o vs)
 | [],_,_=>Kp.refl _ _
 | v::vs,o,w=>(Kp.setCell w v (p:=⟨b,o,none⟩) hb).trans (dV hb vs (o+1) _)
structure Bl(w:World)(b:Nat)(cv:List Value):Prop where
 lt:b<w.heap.size
 at_:∀j u,cv[j]? = some u->w.cell? ⟨b,j,none⟩=some u
 free:∀j,w.frozen? ⟨b,j,none⟩=false
theorem Bl.aj{S:List Nat}{w w':World}{b:Nat}{cv:List Value}(h:Bl w b cv)(k:Kp S w w')(hb:b∉S):Bl w' b cv:=
 ⟨Qx h.lt k.size,fun j u hu=>(k.cell (p:=⟨b,j,none⟩) h.lt hb).trans (h.at_ j u hu),fun j=>(k.frozen (p:=⟨b,j,none⟩) h.lt hb).trans (h.free j)⟩
theorem Bl.alloc(w:World)(cv:List Value)(T:TypeId):Bl (w.alloc (.cells cv.toArray T)) w.heap.size cv:=by
 have hh:(w.alloc (.cells cv.toArray T)).heap[w.heap.size]? = some (.cells cv.toArray T):=by show(w.heap.push _)[w.heap.size]? = _;simp
 refine⟨by simp,fun j u hu=>?_,fun j=>?_⟩
 .simp only[World.cell?,hh];simpa using hu
 .simp only[World.frozen?,hh];simp
theorem Bl.put{w:World}{b:Nat}{cv vs:List Value}(h:Bl w b cv)(hl:vs.length=cv.length):Bl (w.setCells b 0 vs) b vs:=by
 refine⟨Qx h.lt (dV (S:=[b]) (by simp) vs 0 w).size,fun j u hu=>?_,fun j=>by rw[World.frozen?_setCells];exact h.free j⟩;have hj:j<vs.length:=(List.getElem?_eq_some_iff.1 hu).1
 have:=World.cell?_setCells_in b vs 0 w (fun i hi=>by
  have hi':i<cv.length:=by omega
  have:=h.at_ i cv[i] (QA hi')
  rw[QH,this];rfl) j hj
 rw[QH] at this;rw[this,<-hu,QA hj]
theorem Bl.set{w:World}{b:Nat}{cv:List Value}(h:Bl w b cv)(j:Nat)(v:Value)(hj:j<cv.length):Bl (w.setCell ⟨b,j,none⟩ v) b (cv.set j v):=by
 refine⟨by simpa[World.setCell] using h.lt,fun i u hu=>?_,fun i=>by simpa using h.free i⟩;by_cases e:i=j
 .subst e;rw[QI hj] at hu;rw[aw _ (h.at_ i cv[i] (QA hj)),hu]
 .rw[QL (Ne.symm e)] at hu;rw[aq _ (fun q=>by injection q with _ q2 _;exact e q2.symm)];exact h.at_ i u hu
theorem Bl.range{w:World}{b:Nat}{cv:List Value}(h:Bl w b cv):w.rangeAt b 0 cv:=fun j u hu=>by rw[QH];exact h.at_ j u hu
section
variable {w w':World}{b k:Nat}{src:ByteArray}
theorem Mv.alloc(hb:b<w.heap.size)(o:Obj):Mv b w (w.alloc o):=⟨Kp.alloc _ _ _,fun j _=>(Kp.alloc [] w o).cell (p:=⟨b,j,none⟩) hb (by simp)⟩
theorem Mv.fresh{u:World}{x:Nat}(m:Mv b w w')(q:Kp [x] w' u)(hx:w.heap.size<=x)(hb:b<w.heap.size):Mv b w u:=
 ⟨((m.kp.mono (T:=[x,b]) (by simp)).trans (q.mono (by simp))).own hx,fun j hj=>(q.cell (p:=⟨b,j,none⟩) (Qx hb m.kp.size) (by simp;omega)).trans (m.same j hj)⟩
abbrev jq(kd x:Nat):List Value:=[.int .i64 kd,.int .i64 x,.pointer none,.string ⟨#[]⟩]
theorem Co{n x e:Nat}(hr:Cur w b src k)(hd:isD src k=true)(h:Nu src 1 1000000 k n 0 k=some (x,e)):Calls Tryz.prog 168 #[.pointer (some ⟨b,0,none⟩)] w fun r w'=>r=.returned (.agg (jq 0 x).toArray)/\Cur w' b src e/\Mv b w w':=by
 have H:=hid h;clear h;have hA:=hr.aj (Kp.alloc [] w (.cells (jq 0 0).toArray 132)) (by simp);have hlt:=hr.lt;have mA:Mv b w (w.alloc (.cells (jq 0 0).toArray 132)):=Mv.alloc hlt _;have B0:=hid (Bl.alloc w (jq 0 0) 132);go_enter Tryz.func168,Tryz.ntmps168
 go_wp2_with fail;refine(dG hA hd).mono ?_;rintro r w1 ⟨rfl,h1,m1⟩;go_wp2_with fail;refine(uJ (lo:=1) (hi:=1000000) h1 (by omega) H.out).mono ?_;rintro r w2 ⟨rfl,h2,m2⟩;have m12:=m1.trans m2;have B2:=B0.out.aj m12.kp (by simp;omega);have e0:=B2.at_ 0 _ rfl;have e1:=B2.at_ 1 _ rfl;have e2:=B2.at_ 2 _ rfl;have e3:=B2.at_ 3 _ rfl;have f0:=B2.free 0;have f1:=B2.free 1;have f2:=B2.free 2;have f3:=B2.free 3;go_wp2_with fail;have B3:Bl (w2.setCells w.heap.size 0 (jq 0 x)) w.heap.size (jq 0 x):=B2.put rfl;have k3:Kp [w.heap.size] w2 (w2.setCells w.heap.size 0 (jq 0 x)):=dV (by simp) _ _ _;refine bodyPost_ret (eX (p:=2) (ty:=132) (by rw[Tryz.results168]) _ _ w.heap.size 0 rfl _ _ B3.range Tryz.underlying132 rfl (by rw[Tryz.pJ];rfl)) rfl ⟨rfl,h2.aj k3 (by simp;omega),(mA.trans m12).fresh k3 (QD _) hlt⟩
theorem Ah(hr:Cur w b src k)(hd:isD src k=false)(h:saw src k 36=true):Calls Tryz.prog 168 #[.pointer (some ⟨b,0,none⟩)] w fun r w'=>r=.returned (.agg (jq 1 0).toArray)/\Cur w' b src (k+1)/\Mv b w w':=by
 have hA:=hr.aj (Kp.alloc [] w (.cells (jq 0 0).toArray 132)) (by simp);have hlt:=hr.lt;have mA:Mv b w (w.alloc (.cells (jq 0 0).toArray 132)):=Mv.alloc hlt _;have B0:=hid (Bl.alloc w (jq 0 0) 132);go_enter Tryz.func168,Tryz.ntmps168
 go_wp2_with fail;refine(dG hA hd).mono ?_;rintro r w1 ⟨rfl,h1,m1⟩;go_wp2_with fail;refine(df 36 h1 h).mono ?_;rintro r w2 ⟨rfl,h2,m2⟩;have m12:=m1.trans m2;have B2:=B0.out.aj m12.kp (by simp;omega);have e0:=B2.at_ 0 _ rfl;have e1:=B2.at_ 1 _ rfl;have e2:=B2.at_ 2 _ rfl;have e3:=B2.at_ 3 _ rfl;have f0:=B2.free 0;have f1:=B2.free 1;have f2:=B2.free 2;have f3:=B2.free 3;go_wp2_with fail;have B3:Bl (w2.setCells w.heap.size 0 (jq 1 0)) w.heap.size (jq 1 0):=B2.put rfl;have k3:Kp [w.heap.size] w2 (w2.setCells w.heap.size 0 (jq 1 0)):=dV (by simp) _ _ _;refine bodyPost_ret (eX (p:=2) (ty:=132) (by rw[Tryz.results168]) _ _ w.heap.size 0 rfl _ _ B3.range Tryz.underlying132 rfl (by rw[Tryz.pJ];rfl)) rfl ⟨rfl,h2.aj k3 (by simp;omega),(mA.trans m12).fresh k3 (QD _) hlt⟩
end
