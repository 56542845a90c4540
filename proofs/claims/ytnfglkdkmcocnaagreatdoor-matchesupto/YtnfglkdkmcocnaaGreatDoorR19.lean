import Derived.Test.YtnfglkdkmcocnaaGreatDoorR18
set_option maxRecDepth 100000
set_option maxHeartbeats 16000000
set_option linter.all false
namespace Go.Proofs.YtnfglkdkmcocnaaGreatDoor
open Go.RowKit
def OutB {α:Type} (r:Except Nat α) (ok:α→Ending→World→Prop) (S:List Nat) (w:World) (e:Ending) (w':World):Prop:=
 match r with
 | .ok a=>ok a e w'
 | .error pl=>e=Flt 2 pl∧Kp S w w'
section
variable {w:World} {b k g pl:Nat} {src barred behind:ByteArray}
theorem saw_byte {x:Int} (h:saw src k x=true):∃ hk:k < src.size,((src[k]'hk).toNat:Int)=x:=by
 unfold saw at h
 split at h
 ·exact ⟨by assumption,by simpa using h⟩
 ·cases h
theorem escape_t (behind:ByteArray) (hr:Rd w b src k g) (h:saw src k 116=true) :
  Calls Tryz.prog 287 #[.pointer (some ⟨b,0,none⟩),.string behind] w fun e w'=>e=.returned (.int .u8 9)∧Rd w' b src (k+1) g∧Kp [b] w w':=by
 have h1:saw src k 110=false:=by
  obtain ⟨hk,e⟩:=saw_byte h
  unfold saw
  rw [dif_pos hk,e]
  rfl
 go_enter Tryz.func287,Tryz.ntmps287
 go_wp2_with fail
 refine (take_no 110 hr h1).mono ?_
 rintro e w1 ⟨rfl,r1,k1⟩
 go_wp2_with fail
 refine (take_yes 116 r1 h).mono ?_
 rintro e w2 ⟨rfl,r2,k2⟩
 go_wp2_with fail
 go_ret
 exact ⟨rfl,r2,k1.trans k2⟩
theorem byte_t {barred behind:ByteArray} (h92:saw src k 92=true) (h:saw src (k+1) 116=true):ByteOk b src barred behind k (k+1+1) g 9:=by
 intro w hr
 go_enter Tryz.func280,Tryz.ntmps280
 go_wp2_with fail
 refine (take_yes 92 hr h92).mono ?_
 rintro e w1 ⟨rfl,r1,k1⟩
 go_wp2_with fail
 refine (escape_t behind r1 h).mono ?_
 rintro e w2 ⟨rfl,r2,k2⟩
 go_wp2_with fail
 go_ret
 exact ⟨rfl,r2,k1.trans k2⟩
theorem index_neg (l:List UInt8) (c:UInt8) (h:Lib.indexByte l c < 0):Lib.indexByte l c = -1:=by have:=Lib.indexByte_ge l c;omega
theorem byt_g (hle:k≤src.size):match bytP src barred behind k with
  | .ok (l,x)=>x < 256∧k < l∧l≤src.size∧∀ b g,ByteOk b src barred behind k l g x
  | .error pl=>∀ g,ByteF src barred behind k g pl:=by
 unfold bytP
 cases h92:saw src k 92
 ·rw [if_neg (by simp)]
  by_cases hk:k < src.size
  ·rw [dif_pos hk]
   cases h10:saw src k 10
   ·rw [if_neg (by simp)]
    by_cases hx:Lib.indexByte barred.data.toList src[k] < 0
    ·rw [if_pos hx]
     exact ⟨UInt8.toNat_lt _,by omega,by omega,fun b g=>byte_plain hk h92 h10 (index_neg _ _ hx)⟩
    ·rw [if_neg hx]
     exact fun g=>byteF_bar hk h92 h10 rfl (by omega)
   ·rw [if_pos rfl]
    exact fun g=>byteF_nl hk h92 h10
  ·rw [dif_neg hk]
   exact fun g=>byteF_end (by omega)
 ·rw [if_pos rfl]
  have hk:=saw_lt h92
  unfold escP
  cases h110:saw src (k+1) 110
  ·rw [if_neg (by simp)]
   cases h116:saw src (k+1) 116
   ·rw [if_neg (by simp)]
    by_cases hk1:k+1 < src.size
    ·rw [dif_pos hk1]
     by_cases hx:Lib.indexByte behind.data.toList src[k+1] < 0
     ·rw [if_pos hx]
      exact fun g=>byteF_esc h92 (escF_c hk1 h110 h116 rfl hx)
     ·rw [if_neg hx]
      exact ⟨UInt8.toNat_lt _,by omega,by omega,fun b g=>byte_c h92 hk1 h110 h116 rfl (by omega)⟩
    ·rw [dif_neg hk1]
     exact fun g=>byteF_esc h92 (escF_end (by omega))
   ·rw [if_pos rfl]
    have:=saw_lt h116
    exact ⟨by omega,by omega,by omega,fun b g=>byte_t h92 h116⟩
  ·rw [if_pos rfl]
   have:=saw_lt h110
   exact ⟨by omega,by omega,by omega,fun b g=>byte_n h92 h110⟩
theorem beginsName_g (t:ByteArray) (w:World) (ht:t.size≤3000) (hw:Nm w) :
  Calls Tryz.prog 290 #[.string t] w fun e w'=>e=.returned (.bool (begNm t))∧w'=w:=by
 go_enter Tryz.func290,Tryz.ntmps290
 go_wp2
 go_loop [4] (fun v=>∃ k:Nat,k≤7∧v=.int .i64 k∧Hid (∀ j,j < k→preB (nmN j) t=false)) (fun v=>7 - (intOf v).toNat)
 case atStart=>exact ⟨0,by omega,rfl,hid (fun j hj=>by omega)⟩
 case round=>
  obtain ⟨k,hk,rfl,HJ⟩:=hrel
  by_cases hlt:k < 7
  ·have hc:=hw.name k hlt
   have HZ:Hid _:=nmN_size k
   cases hb:preB (nmN k) t
   ·go_wp2_with (go_at_call 180;refine (hasPrefix_any _ _ _ (by rw [HZ.out];omega) ht).mono ?_;rintro e w1 ⟨rfl,rfl⟩)
    go_round
    case rel=>
     refine ⟨k+1,by omega,by go_num,hid (fun j hj=>?_)⟩
     by_cases e:j=k
     ·rw [e];exact hb
     ·exact HJ.out j (by omega)
    case measure=>simp [intOf];omega
   ·have HA:Hid (begNm t=true):=hid (List.any_eq_true.2 ⟨k,List.mem_range.2 hlt,hb⟩)
    go_wp2_with (go_at_call 180;refine (hasPrefix_any _ _ _ (by rw [HZ.out];omega) ht).mono ?_;rintro e w1 ⟨rfl,rfl⟩)
    go_ret
    exact ⟨by rw [HA.out];rfl,rfl⟩
  ·have e7:k=7:=by omega
   subst e7
   have HA:Hid (begNm t=false):=hid (List.any_eq_false.2 (fun x hx=>by simp [HJ.out x (List.mem_range.1 hx)]))
   clear HJ hlt hk
   go_wp2
   go_ret
   exact ⟨by rw [HA.out];rfl,rfl⟩
def NameO (b:Nat) (src:ByteArray) (g:Nat) (w:World) (p:Nat×Nat) (e:Ending) (w':World):Prop:=e=.returned (.string (nmS p.2))∧Rd w' b src p.1 g∧Kp [b] w w'
theorem name_g {f:Nat} (hr:Rd w b src f g) (hw:Nm w) (hb0:b≠4) :
  Calls Tryz.prog 289 #[.pointer (some ⟨b,0,none⟩)] w (OutB (nameP src f (src.size+1) f) (NameO b src g w) [b] w):=by
 obtain ⟨R,hR⟩:∃ R,R=nameP src f (src.size+1) f:=⟨_,rfl⟩
 have HR:=hid hR
 rw [←hR]
 clear hR
 have HB:Hid (4∉[b]):=hid (by simpa using Ne.symm hb0)
 have c1:=hr.c1
 have hsm:=hr.small
 go_enter Tryz.func289,Tryz.ntmps289
 go_wp2
 clear c1
 go_loopw [2] (fun _ wr=>∃ a n:Nat,f≤a∧src.size+1≤a+n∧Rd wr b src a g∧Kp [b] w wr∧Hid (R=nameP src f n a)) (fun _ wr=>3000 - atOf wr b)
 case atStart=>exact ⟨f,src.size+1,by omega,by omega,hr,Kp.refl _ _,HR⟩
 case round=>
  obtain ⟨a,n,hfa,han,hrr,hkp,HN⟩:=hrel
  have HAT:Hid _:=atOf_rd hrr
  have hle:=hrr.le
  match n,HN,han with
  | 0,_,han=>omega
  | n+1,HN,han=>
  have hn:=HN.out
  unfold nameP at hn
  have c0:=hrr.c0
  have c1:=hrr.c1
  have f1:=hrr.free 1
  have hnm:=hw.keep hkp HB.out
  clear HN HR
  by_cases hlt:a < src.size
  ·have he:((a:Int) == (src.size:Int))=false:=by simp;omega
   obtain ⟨a1,ha1⟩:∃ a1:Nat,a1=a+1:=⟨_,rfl⟩
   rw [←ha1] at hn
   have hes:(src.extract f a1).size≤3000:=by simp;omega
   have HE:Hid _:=hes
   have hwr:=wrap_i64_nat a1 (by omega)
   have hfa1:f≤a1:=by omega
   have has1:a1≤src.size:=by omega
   have hsum:(a:Int)+1=(a1:Int):=by omega
   have HA1:Hid _:=ha1
   clear hes ha1
   cases hany:begNm (src.extract f a1)
   ·rw [hany,if_neg (by simp)] at hn
    have HN:=hid hn
    have HAN:∀ n,Calls Tryz.prog 290 #[.string (src.extract f a1)] (wr.drewN n) fun e w'=>e=.returned (.bool false)∧∃ m,w'=wr.drewN m:=fun n=>by
     have:=beginsName_g _ (wr.drewN n) HE.out (hnm.keep (Kp.drewN [] _ _) (by simp))
     rw [hany] at this
     exact Calls.quiet_of_same this
    clear hn hany hnm
    go_wp2
    go_quiet (first | (go_at_call 163;exact ended_qv hrr he _) | (go_at_call 290;exact HAN _))
    go_wp2_with fail
    refine (giveUp_r (hrr.drewN _)).mono ?_
    rintro e w2 ⟨rfl,k2⟩
    go_wp2_with fail
    refine ⟨rfl,?_⟩
    rw [HN.out]
    exact ⟨rfl,hkp.trans ((Kp.drewN _ _ _).trans (k2.mono (by simp)))⟩
   ·rw [hany,if_pos ⟨hlt,rfl⟩] at hn
    have HN:=hid hn
    have HAN:∀ n,Calls Tryz.prog 290 #[.string (src.extract f a1)] (wr.drewN n) fun e w'=>e=.returned (.bool true)∧∃ m,w'=wr.drewN m:=fun n=>by
     have:=beginsName_g _ (wr.drewN n) HE.out (hnm.keep (Kp.drewN [] _ _) (by simp))
     rw [hany] at this
     exact Calls.quiet_of_same this
    clear hn hany hnm
    go_wp2
    go_quiet (first | (go_at_call 163;exact ended_qv hrr he _) | (go_at_call 290;exact HAN _))
    go_wp2
    have hr2:Rd ((wr.drewN nq).setCell ⟨b,1,none⟩ (.int .i64 (a1:Int))) b src a1 g:=by
     have:=(hrr.drewN nq).step hlt
     rwa [hsum,←HA1.out] at this
    have hkp2:Kp [b] w ((wr.drewN nq).setCell ⟨b,1,none⟩ (.int .i64 (a1:Int))):=hkp.trans ((Kp.drewN _ _ _).trans (Kp.setCell _ _ (by simp)))
    clear c0 c1 f1 he hwr hsum HAN
    go_loopw [44] (fun v wl=>∃ k:Nat,k≤7∧v=.int .i64 k∧Rd wl b src a1 g∧Kp [b] w wl∧Hid (∀ j,j < k→((nmN j).toList == (src.extract f a1).toList)=false)) (fun v _=>7 - (intOf v).toNat)
    case atStart=>exact ⟨0,by omega,rfl,hr2,hkp2,hid (fun j hj=>by omega)⟩
    case round=>
     obtain ⟨k,hk7,rfl,hrl,hkl,HJ⟩:=hrel
     by_cases hk:k < 7
     ·have c0:=hrl.c0
      have c1:=hrl.c1
      have hnm:=hw.keep hkl HB.out
      have n0:=hnm.name k hk
      have n1:=hnm.spans k hk
      clear hr2 hrr
      cases hq:((nmN k).toList == (src.extract f a1).toList)
      ·have HQ:=hid hq
       go_wp2
       go_quiet (fail)
       go_wp2
       go_roundw
       case rel=>
        refine ⟨k+1,by omega,by go_num,hrl.drewN _,hkl.trans (Kp.drewN _ _ _),hid (fun j hj=>?_)⟩
        by_cases e:j=k
        ·rw [e];exact HQ.out
        ·exact HJ.out j (by omega)
       case measure=>simp [intOf];omega
      ·have HFI:Hid (isNm (src.extract f a1)=some k):=hid (by
        unfold isNm
        rw [List.find?_range_eq_some]
        exact ⟨hq,List.mem_range.2 hk,fun j hj=>by rw [HJ.out j hj];rfl⟩)
       go_wp2
       go_quiet (fail)
       go_wp2
       go_ret
       rw [HN.out,HFI.out]
       exact ⟨rfl,hrl.drewN nq,hkl.trans (Kp.drewN _ _ _)⟩
     ·have e7:k=7:=by omega
      subst e7
      have HFI:Hid (isNm (src.extract f a1)=none):=hid (by
       unfold isNm
       rw [List.find?_range_eq_none]
       exact fun j hj=>by rw [HJ.out j hj];rfl)
      clear hr2 hrr
      go_wp2
      go_roundw
      case rel=>
       refine ⟨a1,n,by omega,by have:=HA1.out;omega,hrl,hkl,hid ?_⟩
       rw [HN.out,HFI.out,HA1.out]
      case measure=>
       rw [atOf_rd hrl,HAT.out]
       have:=HA1.out
       omega
  ·have he:((a:Int) == (src.size:Int))=true:=by simp;omega
   rw [if_neg (by omega)] at hn
   have HN:=hid hn
   clear hn hlt
   go_wp2
   go_quiet ((go_at_call 163;exact ended_qv hrr he _))
   go_wp2_with fail
   refine (giveUp_r (hrr.drewN _)).mono ?_
   rintro e w2 ⟨rfl,k2⟩
   go_wp2_with fail
   refine ⟨rfl,?_⟩
   rw [HN.out]
   exact ⟨rfl,hkp.trans ((Kp.drewN _ _ _).trans (k2.mono (by simp)))⟩
end
section
variable {w:World} {b k g pl s:Nat} {src:ByteArray} {m:Nat→Bool}
theorem nameP_lt {src:ByteArray} {f:Nat}:∀ {n k l i:Nat},nameP src f n k=.ok (l,i)→k < l∧l≤src.size∧i < 7
 | 0,_,_,_,h=>by cases h
 | n+1,k,l,i,h=>by
  unfold nameP at h
  split at h
  ·rename_i hc
   split at h
   ·rename_i j hj
    injection h with h
    injection h with h1 h2
    subst h1 h2
    unfold isNm at hj
    have:=List.find?_range_eq_some.1 hj
    exact ⟨by omega,by have:=hc.1;omega,List.mem_range.1 this.2.1⟩
   ·have:=nameP_lt h
    omega
  ·cases h
def ItemO (b s:Nat) (src:ByteArray) (g:Nat) (w:World) (p:Nat×(Nat→Bool)) (e:Ending) (w':World):Prop:=e=.returned (.tuple #[])∧Rd w' b src p.1 g∧St w' s p.2∧Kp [s,b] w w'
theorem item_g (hr:Rd w b src k g) (hs:St w s m) (hw:Nm w) (hb0:b≠4) (hbs:b≠s) :
  Calls Tryz.prog 286 #[.pointer (some ⟨b,0,none⟩),.pointer (some ⟨s,0,none⟩)] w (OutB (itemP src k m) (ItemO b s src g w) [s,b] w):=by
 obtain ⟨R,hR⟩:∃ R,R=itemP src k m:=⟨_,rfl⟩
 rw [←hR]
 unfold itemP at hR
 have HB:Hid (4∉[b]):=hid (by simpa using Ne.symm hb0)
 cases h91:saw src k 91
 ·rw [h91,if_neg (by simp)] at hR
  have h1:=byt_g (barred:=clSpecial) (behind:=clEscaped) hr.le
  go_enter Tryz.func286,Tryz.ntmps286
  go_wp2_with fail
  refine (take_no 91 hr h91).mono ?_
  rintro e w1 ⟨rfl,r1,k1⟩
  cases hb1:bytP src clSpecial clEscaped k with
  | error pl=>
   rw [hb1] at h1 hR
   have HR:=hid hR
   have C:=hid (h1 g w1 b r1)
   unfold clSpecial clEscaped at C
   clear h1 hR
   go_wp2_with fail
   refine C.out.mono ?_
   rintro e w2 ⟨rfl,k2⟩
   go_wp2_with fail
   refine ⟨rfl,?_⟩
   rw [HR.out]
   exact ⟨rfl,(k1.trans k2).mono (by simp)⟩
  | ok p=>
   obtain ⟨l,x⟩:=p
   rw [hb1] at h1 hR
   dsimp only at hR
   obtain ⟨hx,hkl,hls,hby⟩:=h1
   have C:=hid (hby b g w1 r1)
   unfold clSpecial clEscaped at C
   clear hby
   cases h45:saw src l 45
   ·rw [h45,if_neg (by simp)] at hR
    have HR:=hid hR
    clear hR
    have hl':decide ((x:Int) < (x:Int))=false:=by simp
    go_wp2_with fail
    refine C.out.mono ?_
    rintro e w2 ⟨rfl,r2,k2⟩
    go_wp2_with fail
    refine (take_no 45 r2 h45).mono ?_
    rintro e w3 ⟨rfl,r3,k3⟩
    have kk:=(k1.trans k2).trans k3
    go_wp2_with fail
    refine (add_any s m x x hx hx (Nat.le_refl _) _ (hs.keep kk (by simpa using Ne.symm hbs))).mono ?_
    rintro e w5 ⟨rfl,s5,k5⟩
    go_wp2_with fail
    refine bodyPost_ret (results_none rfl _ _ _) rfl ?_
    rw [HR.out]
    exact ⟨rfl,r3.keep k5 (by simpa using hbs),s5,(kk.mono (by simp)).trans (k5.mono (by simp))⟩
   ·rw [h45,if_pos rfl] at hR
    have hl1:=saw_lt h45
    have h2:=byt_g (barred:=clSpecial) (behind:=clEscaped) (src:=src) (k:=l+1) (by omega)
    obtain ⟨j,hj⟩:∃ j,j=l+1:=⟨_,rfl⟩
    rw [←hj] at h2 hR
    have hjs:j≤src.size:=by omega
    have HJ:=hid hj
    clear hj
    go_wp2_with fail
    refine C.out.mono ?_
    rintro e w2 ⟨rfl,r2,k2⟩
    go_wp2_with fail
    refine (take_yes 45 r2 h45).mono ?_
    rintro e w3 ⟨rfl,r3,k3⟩
    rw [←HJ.out] at r3
    have c1:=r3.c1
    have kk:=(k1.trans k2).trans k3
    cases hb2:bytP src clSpecial clEscaped j with
    | error pl=>
     rw [hb2] at h2 hR
     have HR:=hid hR
     have C2:=hid (h2 g w3 b r3)
     unfold clSpecial clEscaped at C2
     clear h2 hR
     go_wp2_with fail
     refine C2.out.mono ?_
     rintro e w4 ⟨rfl,k4⟩
     go_wp2_with fail
     refine ⟨rfl,?_⟩
     rw [HR.out]
     exact ⟨rfl,(kk.trans k4).mono (by simp)⟩
    | ok p=>
     obtain ⟨l2,y⟩:=p
     rw [hb2] at h2 hR
     dsimp only at hR
     obtain ⟨hy,hkl2,hls2,hby2⟩:=h2
     have C2:=hid (hby2 b g w3 r3)
     unfold clSpecial clEscaped at C2
     clear hby2
     by_cases hyx:y < x
     ·replace hR:R=.error j:=by rw [hR];exact if_pos hyx
      have HR:=hid hR
      clear hR
      have hcmp:decide ((y:Int) < (x:Int))=true:=by simp;omega
      go_wp2_with fail
      refine C2.out.mono ?_
      rintro e w4 ⟨rfl,r4,k4⟩
      clear c1
      have c1:=r4.c1
      have f1:=r4.free 1
      have R5:=hid (r4.goto j hjs)
      have k5:Kp [b] w4 (w4.setCell ⟨b,1,none⟩ (.int .i64 (j:Int))):=Kp.setCell _ _ (by simp)
      go_wp2_with fail
      refine (giveUp_r R5.out).mono ?_
      rintro e w6 ⟨rfl,k6⟩
      go_wp2_with fail
      refine ⟨rfl,?_⟩
      rw [HR.out]
      exact ⟨rfl,(kk.trans (k4.trans (k5.trans (k6.mono (by simp))))).mono (by simp)⟩
     ·replace hR:R=.ok (l2,span m x (y+1)):=by rw [hR];exact if_neg hyx
      have HR:=hid hR
      clear hR
      have hcmp:decide ((y:Int) < (x:Int))=false:=by simp;omega
      go_wp2_with fail
      refine C2.out.mono ?_
      rintro e w4 ⟨rfl,r4,k4⟩
      clear c1
      have kk4:=kk.trans k4
      go_wp2_with fail
      refine (add_any s m x y hx hy (by omega) _ (hs.keep kk4 (by simpa using Ne.symm hbs))).mono ?_
      rintro e w5 ⟨rfl,s5,k5⟩
      go_wp2_with fail
      refine bodyPost_ret (results_none rfl _ _ _) rfl ?_
      rw [HR.out]
      exact ⟨rfl,r4.keep k5 (by simpa using hbs),s5,(kk4.mono (by simp)).trans (k5.mono (by simp))⟩
 ·rw [h91,if_pos rfl] at hR
  have hk:=saw_lt h91
  go_enter Tryz.func286,Tryz.ntmps286
  go_wp2_with fail
  refine (take_yes 91 hr h91).mono ?_
  rintro e w1 ⟨rfl,r1,k1⟩
  go_wp2_with fail
  cases h58:saw src (k+1) 58
  ·rw [h58,if_neg (by simp)] at hR
   refine (expect_no 58 r1 h58).mono ?_
   rintro e w2 ⟨rfl,k2⟩
   have HR:=hid hR
   clear hR
   go_wp2_with fail
   refine ⟨rfl,?_⟩
   rw [HR.out]
   exact ⟨rfl,(k1.trans k2).mono (by simp)⟩
  ·rw [h58,if_pos rfl] at hR
   refine (expect_yes 58 r1 h58).mono ?_
   rintro e w2 ⟨rfl,r2,k2⟩
   have C:=hid (name_g r2 (hw.keep (k1.trans k2) HB.out) hb0)
   cases hn:nameP src (k+2) (src.size+1) (k+2) with
   | error pl=>
    rw [hn] at hR
    have C:Hid _:=C
    rw [show k+1+1=k+2 by omega,hn] at C
    have HR:=hid hR
    clear hR
    go_wp2_with fail
    refine C.out.mono ?_
    rintro e w3 ⟨rfl,k3⟩
    go_wp2_with fail
    refine ⟨rfl,?_⟩
    rw [HR.out]
    exact ⟨rfl,((k1.trans k2).trans k3).mono (by simp)⟩
   | ok p=>
    obtain ⟨l,i⟩:=p
    rw [hn] at hR
    rw [show k+1+1=k+2 by omega,hn] at C
    have HL:=hid (nameP_lt hn)
    replace hR:R=if saw src l 58=true then (if saw src (l+1) 93=true then .ok (l+2,addSp m (nmS i).data.toList) else .error (l+1)) else .error l:=hR
    clear hn
    go_wp2_with fail
    refine C.out.mono ?_
    rintro e w3 ⟨rfl,r3,k3⟩
    replace r3:Rd w3 b src l g:=r3
    have kk:=(k1.trans k2).trans k3
    go_wp2_with fail
    refine (addSpans_any s m (nmS i) _ (hs.keep kk (by simpa using Ne.symm hbs)) (nmS_ok i) (nmS_ord i)).mono ?_
    rintro e w4 ⟨rfl,s4,k4⟩
    have r4:=r3.keep k4 (by simpa using hbs)
    have kk4:Kp [s,b] w w4:=(kk.mono (by simp)).trans (k4.mono (by simp))
    go_wp2_with fail
    cases h3:saw src l 58
    ·rw [h3,if_neg (by simp)] at hR
     have HR:=hid hR
     clear hR
     refine (expect_no 58 r4 h3).mono ?_
     rintro e w5 ⟨rfl,k5⟩
     go_wp2_with fail
     refine ⟨rfl,?_⟩
     rw [HR.out]
     exact ⟨rfl,kk4.trans (k5.mono (by simp))⟩
    ·rw [h3,if_pos rfl] at hR
     refine (expect_yes 58 r4 h3).mono ?_
     rintro e w5 ⟨rfl,r5,k5⟩
     go_wp2_with fail
     cases h4:saw src (l+1) 93
     ·rw [h4,if_neg (by simp)] at hR
      have HR:=hid hR
      clear hR
      refine (expect_no 93 r5 h4).mono ?_
      rintro e w6 ⟨rfl,k6⟩
      go_wp2_with fail
      refine ⟨rfl,?_⟩
      rw [HR.out]
      exact ⟨rfl,kk4.trans ((k5.trans k6).mono (by simp))⟩
     ·rw [h4,if_pos rfl] at hR
      have HR:=hid hR
      clear hR
      refine (expect_yes 93 r5 h4).mono ?_
      rintro e w6 ⟨rfl,r6,k6⟩
      go_wp2_with fail
      refine bodyPost_ret (results_none rfl _ _ _) rfl ?_
      rw [HR.out]
      exact ⟨rfl,r6,s4.keep (k5.trans k6) (by simpa using Ne.symm hbs),kk4.trans ((k5.trans k6).mono (by simp))⟩
theorem bytP_lt {src barred behind:ByteArray} {k l x:Nat} (hk:k≤src.size) (h:bytP src barred behind k=.ok (l,x)):k < l∧l≤src.size:=by
 have:=byt_g (barred:=barred) (behind:=behind) hk
 rw [h] at this
 exact ⟨this.2.1,this.2.2.1⟩
theorem itemP_lt {k l:Nat} {m m':Nat→Bool} (hk:k≤src.size) (h:itemP src k m=.ok (l,m')):k < l∧l≤src.size:=by
 unfold itemP at h
 split at h
 ·split at h
  ·split at h
   ·cases h
   ·rename_i l1 i hn
    split at h
    ·split at h
     ·rename_i h93
      injection h with h
      injection h with h1 h2
      have:=nameP_lt hn
      have:=saw_lt h93
      omega
     ·cases h
    ·cases h
  ·cases h
 ·split at h
  ·cases h
  ·rename_i l1 x hb
   have h1:=bytP_lt hk hb
   split at h
   ·rename_i h45
    have:=saw_lt h45
    split at h
    ·cases h
    ·rename_i l2 y hb2
     have h2:=bytP_lt (by omega) hb2
     split at h
     ·cases h
     ·injection h with h
      injection h with h1 h2
      omega
   ·injection h with h
    injection h with h1 h2
    omega
theorem itemsP_lt {src:ByteArray}:∀ {n k l:Nat} {m m':Nat→Bool},k≤src.size→itemsP src n k m=.ok (l,m')→k < l∧l≤src.size
 | 0,_,_,_,_,_,h=>by cases h
 | n+1,k,l,m,m',hk,h=>by
  unfold itemsP at h
  split at h
  ·rename_i h93
   injection h with h
   injection h with h1 h2
   have:=saw_lt h93
   omega
  ·split at h
   ·cases h
   ·rename_i l1 m1 hi
    have h1:=itemP_lt hk hi
    have h2:=itemsP_lt h1.2 h
    omega
def ClassO (b:Nat) (src:ByteArray) (g:Nat) (w:World) (p:Nat×(Nat→Bool)) (e:Ending) (w':World):Prop:=e=.returned (setV p.2)∧Rd w' b src p.1 g∧Kp [b] w w'
theorem class_o {n:Nat} (hr:Rd w b src k g) (hw:Nm w) (hb0:b≠4) (hn:src.size+1≤k+n) :
  Calls Tryz.prog 279 #[.pointer (some ⟨b,0,none⟩)] w (OutB (classP src n k) (ClassO b src g w) [b] w):=by
 obtain ⟨R,hR⟩:∃ R,R=classP src n k:=⟨_,rfl⟩
 rw [←hR]
 unfold classP at hR
 have HB:Hid (4∉[b]):=hid (by simpa using Ne.symm hb0)
 have hlt:=hr.lt
 have q0:=Kp.alloc [b] w zero4
 have r0:=hr.keep (Kp.alloc [] w zero4) (by simp)
 have q0z:(w.alloc zero4).heap.size=w.heap.size+1:=by simp
 obtain ⟨t,ht⟩:∃ t,t=saw src k 94:=⟨_,rfl⟩
 obtain ⟨k0,hk0⟩:∃ k0,k0=if saw src k 94=true then k+1 else k:=⟨_,rfl⟩
 rw [←hk0] at hR
 have TK:=hid (take_any 94 r0)
 rw [←ht] at TK hk0 hR
 rw [←hk0] at TK
 have hkk:k≤k0:=by rw [hk0];split <;> omega
 have HK:=hid (And.intro ht hk0)
 clear ht hk0
 go_enter Tryz.func279,Tryz.ntmps279
 go_wp2_with fail
 refine TK.out.mono ?_
 rintro e w1 ⟨rfl,r1,k1⟩
 have hz1:=k1.size
 rw [q0z] at hz1
 have r2:=r1.keep (Kp.alloc [] w1 zero4) (by simp)
 have q2:=Kp.alloc [b] w1 zero4
 have hne:b≠w1.heap.size:=by have:=r1.lt;omega
 have hw2:Nm (w1.alloc zero4):=((hw.keep q0 HB.out).keep k1 HB.out).keep q2 HB.out
 have K12:Kp [b] w (w1.alloc zero4):=q0.trans (k1.trans q2)
 have hle0:=r1.le
 obtain ⟨sb,hsb⟩:∃ sb,sb=w1.heap.size:=⟨_,rfl⟩
 obtain ⟨w2,hw2e⟩:∃ w2,w2=w1.alloc zero4:=⟨_,rfl⟩
 have SN:=St_new w1
 have IT:=hid (item_g r2 SN hw2 hb0 hne)
 rw [←hsb,←hw2e] at SN IT
 rw [←hsb] at hne
 rw [←hw2e] at K12 hw2 r2
 have Z0:St w2 w.heap.size noBytes:=by rw [hw2e];exact ((St_new w).keep k1 (by simp;omega)).keep q2 (by simp;omega)
 have hs0:sb≠w.heap.size:=by omega
 have hb0':b≠w.heap.size:=by omega
 go_wp2_with fail
 rw [←hsb,←hw2e]
 have hszs:w.heap.size≤sb:=by omega
 have HSB:=hid hsb
 clear hsb hw2e q0 r0 q0z k1 q2 r1 hz1 r2
 cases hi:itemP src k0 noBytes with
 | error pl=>
  rw [hi] at IT hR
  have HR:=hid hR
  clear hR
  refine IT.out.mono ?_
  rintro e w3 ⟨rfl,k3⟩
  go_wp2_with fail
  refine ⟨rfl,?_⟩
  rw [HR.out]
  exact ⟨rfl,Kp.own (x:=sb) ((K12.mono (by simp)).trans k3) hszs⟩
 | ok p=>
  obtain ⟨l,m1⟩:=p
  rw [hi] at IT hR
  have hl:=itemP_lt hle0 hi
  replace hR:R=match itemsP src n l m1 with
   | .error pl=>.error pl
   | .ok (l2,m2)=>.ok (l2,if t=true then fun x=>!m2 x else m2):=hR
  have HR:=hid hR
  clear hR
  refine IT.out.mono ?_
  rintro e w3 ⟨rfl,r3,s3,k3⟩
  replace r3:Rd w3 b src l g:=r3
  replace s3:St w3 sb m1:=s3
  have K3:Kp [sb,b] w w3:=(K12.mono (by simp)).trans k3
  have Z3:=Z0.keep k3 (by simp;omega)
  clear K12 k3 Z0 IT
  go_wp2_with fail
  go_loopw [11] (fun _ wr=>∃ a j ma,k0 < a∧src.size+1≤a+j∧Rd wr b src a g∧Hid (St wr sb ma)∧Hid (St wr w.heap.size noBytes)∧Kp [sb,b] w wr∧Hid (itemsP src n l m1=itemsP src j a ma)) (fun _ wr=>3000 - atOf wr b)
  case atStart=>exact ⟨l,n,m1,hl.1,by omega,r3,hid s3,hid Z3,K3,hid rfl⟩
  case round=>
   clear r3 s3 K3 Z3
   obtain ⟨a,j,ma,hka,haj,hrr,HS,HZ,hkp,HI⟩:=hrel
   have HAT:Hid _:=atOf_rd hrr
   have hle:=hrr.le
   have hsm:=hrr.small
   match j,HI,haj with
   | 0,_,haj=>omega
   | j+1,HI,haj=>
   have hI:=HI.out
   rw [itemsP] at hI
   clear HI
   cases h93:saw src a 93
   ·rw [h93,if_neg (by simp)] at hI
    go_wp2_with fail
    refine (take_no 93 hrr h93).mono ?_
    rintro e w4 ⟨rfl,r4,k4⟩
    have s4:=HS.out.keep k4 (by simpa using Ne.symm hne)
    have z4:=HZ.out.keep k4 (by simpa using Ne.symm hb0')
    have hGs:4∉[sb,b]:=by have:=hw.lt;have:=HB.out;simp at this ⊢;omega
    have hw4:=(hw.keep hkp hGs).keep k4 HB.out
    have C:=hid (item_g r4 s4 hw4 hb0 hne)
    have hsmr:=r4.small
    cases hi2:itemP src a ma with
    | error pl=>
     rw [hi2] at C hI
     have HI:=hid hI
     clear hI hGs hw4
     go_wp2_with fail
     refine C.out.mono ?_
     rintro e w5 ⟨rfl,k5⟩
     go_wp2_with fail
     refine ⟨rfl,?_⟩
     rw [HR.out,HI.out]
     exact ⟨rfl,Kp.own (x:=sb) (hkp.trans ((k4.mono (by simp)).trans k5)) hszs⟩
    | ok p=>
     obtain ⟨l2,m2⟩:=p
     rw [hi2] at C hI
     have hl2:=itemP_lt hle hi2
     have HI:=hid hI
     clear hI hGs hw4
     go_wp2_with fail
     refine C.out.mono ?_
     rintro e w5 ⟨rfl,r5,s5,k5⟩
     replace r5:Rd w5 b src l2 g:=r5
     replace s5:St w5 sb m2:=s5
     have z5:=z4.keep k5 (by simp;omega)
     go_wp2_with fail
     go_round
     case rel=>exact ⟨l2,j,m2,by omega,by omega,r5,hid s5,hid z5,hkp.trans ((k4.mono (by simp)).trans k5),HI⟩
     case measure=>rw [atOf_rd r5,HAT.out];omega
   ·rw [h93,if_pos rfl] at hI
    have HI:=hid hI
    clear hI
    have hlt9:=saw_lt h93
    go_wp2_with fail
    refine (take_yes 93 hrr h93).mono ?_
    rintro e w4 ⟨rfl,r4,k4⟩
    have s4:=HS.out.keep k4 (by simpa using Ne.symm hne)
    have z4:=HZ.out.keep k4 (by simpa using Ne.symm hb0')
    have K4:Kp [sb,b] w w4:=hkp.trans (k4.mono (by simp))
    clear hkp k4 hrr
    cases t
    ·have a0:=s4.cell 0 (by omega)
     have a1:=s4.cell 1 (by omega)
     have a2:=s4.cell 2 (by omega)
     have a3:=s4.cell 3 (by omega)
     have d0:=z4.cell 0 (by omega)
     have d1:=z4.cell 1 (by omega)
     have d2:=z4.cell 2 (by omega)
     have d3:=z4.cell 3 (by omega)
     have f0:=z4.free 0
     have f1:=z4.free 1
     have f2:=z4.free 2
     have f3:=z4.free 3
     go_wp2_with fail
     have K3:Kp [b] w w4:=Kp.own (x:=sb) K4 hszs
     refine bodyPost_ret (v:=setV ma) (by simp [results,Tryz.results279,go_sem,d0,d1,d2,d3]) rfl ?_
     rw [HR.out,HI.out]
     refine ⟨rfl,?_,?_⟩
     ·exact (((r4.keep (Kp.setCell (S:=[w.heap.size]) _ _ (by simp)) (by simp;omega)).keep (Kp.setCell (S:=[w.heap.size]) _ _ (by simp)) (by simp;omega)).keep (Kp.setCell (S:=[w.heap.size]) _ _ (by simp)) (by simp;omega)).keep (Kp.setCell (S:=[w.heap.size]) _ _ (by simp)) (by simp;omega)
     ·exact Kp.own (x:=w.heap.size) (((((K3.mono (by simp)).trans (Kp.setCell _ _ (by simp))).trans (Kp.setCell _ _ (by simp))).trans (Kp.setCell _ _ (by simp))).trans (Kp.setCell _ _ (by simp))) (Nat.le_refl _)
    ·have a0:=s4.cell 0 (by omega)
     have a1:=s4.cell 1 (by omega)
     have a2:=s4.cell 2 (by omega)
     have a3:=s4.cell 3 (by omega)
     go_wp2_with fail
     refine (others_any ma _).mono ?_
     rintro e w5 ⟨rfl,k5⟩
     have z5:=z4.keep k5 (by simp)
     have r5:=r4.keep k5 (by simp)
     have d0:=z5.cell 0 (by omega)
     have d1:=z5.cell 1 (by omega)
     have d2:=z5.cell 2 (by omega)
     have d3:=z5.cell 3 (by omega)
     have f0:=z5.free 0
     have f1:=z5.free 1
     have f2:=z5.free 2
     have f3:=z5.free 3
     clear a0 a1 a2 a3
     have K5:Kp [b] w w5:=(Kp.own (x:=sb) K4 hszs).trans (k5.mono (by simp))
     go_wp2_with fail
     refine bodyPost_ret (v:=setV fun x=>!ma x) (by simp [results,Tryz.results279,go_sem,d0,d1,d2,d3]) rfl ?_
     rw [HR.out,HI.out]
     refine ⟨rfl,?_,?_⟩
     ·exact (((r5.keep (Kp.setCell (S:=[w.heap.size]) _ _ (by simp)) (by simp;omega)).keep (Kp.setCell (S:=[w.heap.size]) _ _ (by simp)) (by simp;omega)).keep (Kp.setCell (S:=[w.heap.size]) _ _ (by simp)) (by simp;omega)).keep (Kp.setCell (S:=[w.heap.size]) _ _ (by simp)) (by simp;omega)
     ·exact Kp.own (x:=w.heap.size) (((((K5.mono (by simp)).trans (Kp.setCell _ _ (by simp))).trans (Kp.setCell _ _ (by simp))).trans (Kp.setCell _ _ (by simp))).trans (Kp.setCell _ _ (by simp))) (Nat.le_refl _)
theorem class_g {n:Nat} (hk:k≤src.size) (hn:src.size+1≤k+n):match classP src n k with
  | .ok (l,m)=>k < l∧l≤src.size∧∀ b g,b≠4→ClassOk b src k l g m
  | .error pl=>∀ g,FailN 279 src k g pl:=by
 have H:∀ b g,b≠4→∀ w,Rd w b src k g→Nm w→Calls Tryz.prog 279 #[.pointer (some ⟨b,0,none⟩)] w (OutB (classP src n k) (ClassO b src g w) [b] w):=fun b g hb w hr hw=>class_o hr hw hb hn
 cases hc:classP src n k with
 | error pl=>
  rw [hc] at H
  exact fun g w b hb hr hw=>H b g hb w hr hw
 | ok p=>
  obtain ⟨l,m⟩:=p
  rw [hc] at H
  refine ⟨?_,?_,fun b g hb w hr hw=>H b g hb w hr hw⟩
  all_goals
   unfold classP at hc
   split at hc
   ·cases hc
   ·rename_i l1 m1 h1
    split at hc
    ·cases hc
    ·rename_i l2 m2 h2
     injection hc with hc
     injection hc with e1 e2
     have hk0:(if saw src k 94=true then k+1 else k)≤src.size:=by
      split
      ·rename_i h94
       have:=saw_lt h94
       omega
      ·exact hk
     have q1:=itemP_lt hk0 h1
     have q2:=itemsP_lt q1.2 h2
     split at q1 <;> omega
end
