import Derived.Test.YtnfglkdkmcocnaaGreatDoorR24
import Derived.Test.YtnfglkdkmcocnaaGreatDoorR19
import Derived.Deep.CutBlock
set_option maxRecDepth 100000
set_option maxHeartbeats 16000000
set_option linter.all false
namespace Go.Proofs.YtnfglkdkmcocnaaGreatDoor
open Go.RowKit
theorem ndC_congr (x:Nv) (kv:Value) {f f':Nat→Bool} (h:∀ i,i < 256→f i=f' i):ndC { x with set:=f } kv=ndC { x with set:=f' } kv:=by
 unfold ndC
 have:((List.range 256).map fun i=>Value.bool (f i))=((List.range 256).map fun i=>Value.bool (f' i)):=List.map_congr_left fun i hi=>by rw [h i (List.mem_range.1 hi)]
 dsimp only
 rw [this]
theorem Sb.congr {w:World} {cb:Nat} {m m':Nat→Bool} (h:Sb w cb m) (hm:∀ x,x < 256→m x=m' x):Sb w cb m':=by
 have e:=ndC_congr (setN m) noK hm
 show Bl w cb (ndC { setN m with set:=m' } noK)
 rw [←e];exact h
theorem itemsP_succ (src:ByteArray) (n k:Nat) (m:Nat→Bool):itemsP src (n+1) k m=if saw src k 93 then .ok (k+1,m) else match itemP src k m with
  | .error pl=>.error pl
  | .ok (l,m1)=>itemsP src n l m1:=by rw [itemsP];cases saw src k 93 <;> rfl
def clsF (src:ByteArray) (n k:Nat) (m:Nat→Bool):Except Nat (Nat×(Nat→Bool)):=match itemP src k m with
 | .error pl=>.error pl
 | .ok (l,m1)=>itemsP src n l m1
section
variable {w w' w1:World} {B b q:Nat} {src:ByteArray} {k g:Nat} {bad:Int} {v v' v1:Value} {N:List Nw}
theorem takeR_nk (x:Int) (h:Pr w b q src k bad) (hx:saw src k x=false):Calls Tryz.prog 116 #[.pointer (some ⟨b,0,none⟩),.int .u8 x] w fun e w'=>e=.returned (.bool false)∧Pr w' b q src k bad∧Kp [b] w w':=
 (takeR_no x h hx).mono fun _ _ ⟨h1,n,h2⟩=>by rw [h2];exact ⟨h1,h.drewN n,Kp.drewN _ _ _⟩
theorem takeR_any (x:Int) (h:Pr w b q src k bad) {y:Bool} (hx:saw src k x=y):Calls Tryz.prog 116 #[.pointer (some ⟨b,0,none⟩),.int .u8 x] w fun e w'=>e=.returned (.bool y)∧Pr w' b q src (if y=true then k+1 else k) bad∧Kp [b] w w':=by
 cases y
 ·exact takeR_nk x h hx
 ·exact takeR_yes x h hx
def psM (w:World) (b:Nat):Nat:=match w.cell? ⟨b,1,none⟩,w.cell? ⟨b,2,none⟩ with
 | some (.int _ a),some (.int _ z)=>2 * (3000 - a.toNat)+(if z < 0 then 1 else 0)
 | _,_=>0
theorem Pr.psM (h:Pr w b q src k bad):psM w b=2 * (3000 - k)+(if bad < 0 then 1 else 0):=by
 unfold Go.Proofs.YtnfglkdkmcocnaaGreatDoor.psM
 rw [h.c1,h.c2]
 simp
def clsEnd (nt:Bool):Except Nat (Nat×(Nat→Bool))→Except Nat (Nat×(Nat→Bool))
 | .error pl=>.error pl
 | .ok (l,m)=>.ok (l,if nt then fun x=>!m x else m)
theorem classP_clsF (src:ByteArray) (n k:Nat):classP src n k=clsEnd (saw src k 94) (clsF src n (if saw src k 94 then k+1 else k) noBytes):=by
 unfold classP clsF clsEnd
 cases itemP src (if saw src k 94 then k+1 else k) noBytes with
 | error pl=>rfl
 | ok p=>rfl
def ClOut (src:ByteArray) (b q cb:Nat) (RS:Except Nat (Nat×(Nat→Bool))) (w wx:World):Prop:=
 (∃ a m,RS=.ok (a+1,m)∧a < src.size∧Pr wx b q src a (-1)∧Sb wx cb m∧Kp [b,cb] w wx)∨(∃ pl a m,RS=.error pl∧a≤src.size∧Pr wx b q src a (pl:Nat)∧Sb wx cb m∧Kp [b,cb] w wx)
def ClFin (src:ByteArray) (k a:Nat) (mm:Nat→Bool) (bd:Int):Prop:=match classP src src.size k with
 | .ok (l,m')=>l=a+1∧m'=mm∧bd = -1
 | .error pl=>bd=(pl:Nat)
def ClPost (src:ByteArray) (B b q k g:Nat) (v:Value) (N:List Nw) (w:World) (e:Ending) (w':World):Prop:=e=.returned (.int .i64 N.length)∧∃ v',Pk b q v v' w w'∧match classP src src.size k with
 | .ok (l,m)=>Ps w' B b q src l g (-1) v' (N++[(setN m,noK)])
 | .error pl=>∃ k' m,Ps w' B b q src k' g (pl:Nat) v' (N++[(setN m,noK)])
def ngT (m:Nat→Bool) (nt:Bool) (c:Nat):Nat→Bool:=fun x=>if x < c then (m x != nt) else m x
theorem esc_256 {of:ByteArray} {l x:Nat} (he:escP src of k=.ok (l,x)):x < 256:=by
 unfold escP at he
 repeat' split at he
 all_goals first | (cases he;done) | (cases he;omega) | (cases he;exact UInt8.toNat_lt _)
theorem byt_256 {l x:Nat} (he:bytP src clSpecial clEscaped k=.ok (l,x)):x < 256:=by
 unfold bytP at he
 split at he
 ·exact esc_256 he
 ·repeat' split at he
  all_goals first | (cases he;done) | (cases he;exact UInt8.toNat_lt _)
theorem nameP_i {f n j l i:Nat} (h:nameP src f n j=.ok (l,i)):i < 7:=(nameP_lt h).2.2
theorem item_named {a:Nat} (m:Nat→Bool) (h91:saw src a 91=true) (h58:saw src (a+1) 58=true) {i p:Nat} (hR:namedF (src.data.toList.drop (a+2)) (a+2) 7 0 (a+2)=(i,p)) :
  (i < 7∧itemP src a m=.ok (p,addSp m (nmS i).data.toList)∧p≤src.size)∨(i=7∧itemP src a m=.error p):=by
 have hk:=saw_lt h58
 have e:=named_eq (src:=src) (f:=a+2) (by omega)
 rw [hR] at e
 unfold itemP
 rw [h91,if_pos rfl,h58,if_pos rfl]
 cases hn:nameP src (a+2) (src.size+1) (a+2) with
 | error pl=>
  rw [hn] at e
  cases e
  exact .inr ⟨rfl,rfl⟩
 | ok z=>
  obtain ⟨l,j⟩:=z
  rw [hn] at e
  dsimp only at e ⊢
  cases h1:saw src l 58 with
  | false=>
   rw [h1] at e
   cases e
   exact .inr ⟨rfl,rfl⟩
  | true=>
   rw [h1,if_pos rfl] at e
   cases h2:saw src (l+1) 93 with
   | false=>
    rw [h2] at e
    cases e
    exact .inr ⟨rfl,rfl⟩
   | true=>
    rw [h2,if_pos rfl] at e
    cases e
    exact .inl ⟨nameP_i hn,rfl,by have:=saw_lt h2;omega⟩
theorem nmN_ne {i:Nat}:(nmN i).toList.isEmpty=false:=by
 rw [toList_data]
 have h:=nmN_size i
 have h:(nmN i).data.toList.length=5:=by rw [Array.length_toList];exact h
 cases e:(nmN i).data.toList with
 | nil=>rw [e] at h;cases h
 | cons a l=>rfl
def wnT (m:Nat→Bool) (i c:Nat):Nat→Bool:=fun x=>if x < c then (m x || wthF i x) else m x
def RgO (src:ByteArray) (b q cb lo:Nat) (m:Nat→Bool) (r:Except Nat (Nat×(Nat→Bool))) (w:World) (av bv:Value) (wx:World):Prop:=
 (∃ l x y:Nat,av=.int .i64 x∧bv=.int .i64 y∧x≤y∧y < 256∧r=.ok (l,span m x (y+1))∧l≤src.size∧Pr wx b q src l (-1)∧Sb wx cb m∧Kp [b,cb] w wx) ∨
 (∃ pl a x y:Nat,av=.int .i64 x∧bv=.int .i64 y∧r=.error pl∧(lo≤a∧a≤src.size)∧Pr wx b q src a (pl:Nat)∧Sb wx cb m∧Kp [b,cb] w wx)
def ItO (src:ByteArray) (b q cb lo:Nat) (r:Except Nat (Nat×(Nat→Bool))) (w wx:World):Prop:=
 (∃ l m,r=.ok (l,m)∧l≤src.size∧Pr wx b q src l (-1)∧Sb wx cb m∧Kp [b,cb] w wx)∨(∃ pl a m,r=.error pl∧(lo≤a∧a≤src.size)∧Pr wx b q src a (pl:Nat)∧Sb wx cb m∧Kp [b,cb] w wx)
def ClIn (src:ByteArray) (b q cb:Nat) (RS:Except Nat (Nat×(Nat→Bool))) (w:World) (mv:Value) (wx:World):Prop:=
 (mv=.bool true∧∃ a m n,a≤src.size∧src.size≤a+n∧clsF src n a m=RS∧Pr wx b q src a (-1)∧Sb wx cb m∧Kp [b,cb] w wx) ∨
 (mv=.bool false∧∃ a m,RS=.ok (a+1,m)∧a < src.size∧Pr wx b q src a (-1)∧Sb wx cb m∧Kp [b,cb] w wx) ∨
 (∃ y pl a m,mv=.bool y∧RS=.error pl∧a≤src.size∧Pr wx b q src a (pl:Nat)∧Sb wx cb m∧Kp [b,cb] w wx)
theorem class_any (h:Ps w B b q src k g (-1) v N) (hk:k≤src.size) (hn:N.length≤100000) :
  Calls Tryz.prog 245 #[.pointer (some ⟨b,0,none⟩)] w (ClPost src B b q k g v N w):=by
 obtain ⟨z0,hz0⟩:∃ z0:List Value,z0=ndC (setN noBytes) noK:=⟨_,rfl⟩
 have hzl:z0.length=262:=by rw [hz0];exact ndC_len _ _
 have hz1:∀ u∈z0,u.oneCell'=true:=by rw [hz0];exact ndC_one _ rfl
 have HZ:=hid hz0
 clear hz0
 go_enter Tryz.func245,Tryz.ntmps245
 go_upto_region 2 with (refine newVarR (w1:=w) rfl 192 (.tmp 3) (.tmp 16) rfl Tryz.zeroCells192.toList 192 z0 rfl (by rw [HZ.out];kernel_rfl) (by rw [hzl];kernel_rfl) (by rw [hzl];exact Tryz.szNodeR) hz1 ?_;intro w2 b2 k2)
 obtain ⟨cb,hcb⟩:∃ cb,cb=w.heap.size:=⟨_,rfl⟩
 rw [←hcb] at b2 ⊢
 rw [HZ.out] at b2
 have sb2:Sb w2 cb noBytes:=b2
 have pr2:=h.pr.keep k2 (by simp)
 have hbc:b≠cb:=by have:=h.pr.lt;omega
 have H0:=hid (And.intro h (And.intro k2 hcb))
 clear HZ hz1 hzl b2 z0 h k2 hcb
 obtain ⟨nt,hnt⟩:∃ nt,saw src k 94=nt:=⟨_,rfl⟩
 go_wp2_with fail
 refine (takeR_any 94 pr2 hnt).mono ?_
 rintro e w3 ⟨rfl,pr3,k3⟩
 obtain ⟨k1,hk1⟩:∃ k1,k1=if nt=true then k+1 else k:=⟨_,rfl⟩
 rw [←hk1] at pr3
 have hk1s:k1≤src.size:=by
  rw [hk1]
  cases nt with
  | true=>exact saw_lt hnt
  | false=>exact hk
 obtain ⟨RS,hRS⟩:∃ RS,RS=clsF src src.size k1 noBytes:=⟨_,rfl⟩
 have sb3:Sb w3 cb noBytes:=sb2.keep k3 (by simpa using hbc.symm)
 have hcl:classP src src.size k=clsEnd nt RS:=by rw [classP_clsF,hnt,←hk1,←hRS]
 have H1:=hid (And.intro hcl (And.intro k3 hRS))
 have hsm:=pr3.small
 clear hcl k3 hRS hk1 hk sb2 pr2 hnt
 go_upto_block 0 with fail
 go_cut [5] from 16 (fun _ wx=>ClOut src b q cb RS w3 wx)
 case first=>
  go_wp2_with fail
  go_loopw [5] (fun mv wr=>ClIn src b q cb RS w3 mv wr) (fun _ wr=>psM wr b)
  case atStart=>exact .inl ⟨rfl,k1,noBytes,src.size,hk1s,by omega,H1.out.2.2.symm,pr3,sb3,Kp.refl _ _⟩
  case round=>
   rcases hrel with ⟨rfl,a,m,n,ha,hn',hcl,pa,sa,ka⟩ | ⟨rfl,a,m,hr,ha,pa,sa,ka⟩ | ⟨y,pl,a,m,rfl,hr,ha,pa,sa,ka⟩
   ·have HX:=hid (And.intro hcl (And.intro ha (And.intro hn' (And.intro sa (And.intro ka pa)))))
    clear hcl sa ka hn'
    go_wp2_with fail
    refine (okR_any pa (v:=true) (by simp)).mono ?_
    rintro e w4 ⟨rfl,rfl⟩
    go_wp2_with fail
    obtain ⟨y91,h91⟩:∃ y,saw src a 91=y:=⟨_,rfl⟩
    refine (takeR_any 91 pa h91).mono ?_
    rintro e w5 ⟨rfl,p5,k5⟩
    clear pa pr3 sb3
    go_upto_if 25 with fail
    go_cut [25] from 200 (fun _ wx=>ItO src b q cb a (itemP src a m) w3 wx)
    case rest=>
     obtain ⟨hcl,ha,hn',sa,ka,pa⟩:=HX.out
     have hps:psM w4 b=2 * (3000 - a)+1:=by rw [pa.psM];rfl
     unfold clsF at hcl
     rcases hcut with ⟨l,m1,hi,hl,pl1,sl,kl⟩ | ⟨pl,a1,m1,hi,hl,pl1,sl,kl⟩
     ·have hal:=(itemP_lt ha hi).1
      obtain ⟨n',rfl⟩:∃ n',n=n'+1:=⟨n - 1,by omega⟩
      rw [hi] at hcl
      have hcl:itemsP src (n'+1) l m1=RS:=hcl
      rw [itemsP_succ] at hcl
      obtain ⟨y93,h93⟩:∃ y,saw src l 93=y:=⟨_,rfl⟩
      have hpk:pk src l=93∨¬ pk src l=93:=Decidable.em _
      have hpe:=pk_saw src l (x:=93) (by omega)
      rw [h93] at hpe hcl
      have hcl:(y93=true→RS=.ok (l+1,m1))∧(y93=false→clsF src n' l m1=RS):=by
       cases y93
       ·exact ⟨fun e=>(by cases e),fun _=>hcl⟩
       ·exact ⟨fun _=>hcl.symm,fun e=>(by cases e)⟩
      have HY:=hid (And.intro (And.intro (hcl.1) hcl.2) (And.intro hal (And.intro hl (And.intro pl1 (And.intro sl (And.intro kl (And.intro hn' hps)))))))
      clear hcl hal sl kl hn' hi hps pa ka sa p5 k5
      obtain ⟨z,hz⟩:∃ z,z=pk src l:=⟨_,rfl⟩
      rw [←hz] at hpe hpk
      have HZ:=hid hz.symm
      clear hz
      cases y93 with
      | true=>
       have hz93:z=93:=by simpa using hpe
       subst hz93
       clear hpe hpk
       go_wp2_with fail
       refine (peekR_v pl1 HZ.out).mono ?_
       rintro e w6 ⟨rfl,nn,rfl⟩
       clear pl1
       go_wp2_with fail
       go_roundw
       ·obtain ⟨hcl,hal,hl,pl1,sl,kl,hn',hps⟩:=HY.out
        exact .inr (.inl ⟨rfl,l,m1,hcl.1 (by first | trivial | rfl),saw_lt h93,pl1.drewN _,Bl.keep sl (Kp.drewN [] _ _) (by simp),kl.trans (Kp.drewN _ _ _)⟩)
       ·obtain ⟨hcl,hal,hl,pl1,sl,kl,hn',hps⟩:=HY.out
        rw [(pl1.drewN nn).psM,hps]
        simp;omega
      | false=>
       have hz93:(z != 93)=true:=by simpa using hpe
       clear hpe hpk
       go_wp2_with fail
       refine (peekR_v pl1 HZ.out).mono ?_
       rintro e w6 ⟨rfl,nn,rfl⟩
       clear pl1
       go_wp2_with fail
       go_roundw
       ·obtain ⟨hcl,hal,hl,pl1,sl,kl,hn',hps⟩:=HY.out
        exact .inl ⟨rfl,l,m1,n',hl,by omega,hcl.2 (by first | trivial | rfl),pl1.drewN _,Bl.keep sl (Kp.drewN [] _ _) (by simp),kl.trans (Kp.drewN _ _ _)⟩
       ·obtain ⟨hcl,hal,hl,pl1,sl,kl,hn',hps⟩:=HY.out
        rw [(pl1.drewN nn).psM,hps]
        simp;omega
     ·rw [hi] at hcl
      have hcl:(.error pl:Except Nat (Nat×(Nat→Bool)))=RS:=hcl
      have HY:=hid (And.intro hcl (And.intro hl (And.intro pl1 (And.intro sl (And.intro kl hps)))))
      clear hcl sl kl hn' hi hps pa ka sa p5 k5 hl
      obtain ⟨z,hz⟩:∃ z,z=pk src a1:=⟨_,rfl⟩
      have HZ:=hid hz.symm
      clear hz
      go_wp2_with fail
      refine (peekR_v pl1 HZ.out).mono ?_
      rintro e w6 ⟨rfl,nn,rfl⟩
      clear pl1
      go_wp2_with fail
      go_roundw
      ·obtain ⟨hcl,hl,pl1,sl,kl,hps⟩:=HY.out
       exact .inr (.inr ⟨_,pl,a1,m1,rfl,hcl.symm,hl.2,pl1.drewN _,Bl.keep sl (Kp.drewN [] _ _) (by simp),kl.trans (Kp.drewN _ _ _)⟩)
      ·obtain ⟨hcl,hl,pl1,sl,kl,hps⟩:=HY.out
       rw [(pl1.drewN nn).psM,hps,if_neg (by omega)]
       omega
    case first=>
     have hK5:Kp [b,cb] w3 w5:=by
      exact HX.out.2.2.2.2.1.trans (k5.mono (by simp))
     have sb5:Sb w5 cb m:=Bl.keep HX.out.2.2.2.1 k5 (by simpa using hbc.symm)
     have H5:=hid (And.intro hK5 (And.intro sb5 k5))
     clear hK5 sb5 k5
     cases y91 with
     | true=>
      have p5:Pr w5 b q src (a+1) (-1):=p5
      obtain ⟨y58,h58⟩:∃ y,saw src (a+1) 58=y:=⟨_,rfl⟩
      go_wp2_with fail
      refine (takeR_any 58 p5 h58).mono ?_
      rintro e w6 ⟨rfl,p6,k6⟩
      clear p5
      cases y58 with
      | false=>
       have p6:Pr w6 b q src (a+1) (-1):=p6
       have c1:=p6.c1
       have ei:itemP src a m=.error (a+1):=by unfold itemP;rw [h91,if_pos rfl,h58,if_neg (by simp)]
       have HE:=hid (And.intro ei (And.intro k6 (saw_lt h91)))
       clear ei k6
       go_wp2_with fail
       refine (failR_first p6 (a+1) (by omega)).mono ?_
       rintro e w7 ⟨rfl,p7,k7⟩
       have H7:=hid (And.intro p7 k7)
       clear p7 k7 p6 c1
       go_wp2_with fail
       go_meet
       case rel=>
        obtain ⟨hcl,ha,hn',sa,ka,pa⟩:=HX.out
        obtain ⟨p7,k7⟩:=H7.out
        obtain ⟨ei,k6,hlt⟩:=HE.out
        obtain ⟨hK5,sb5,k5⟩:=H5.out
        unfold clsF at hcl
        rw [ei] at hcl
        exact .inr ⟨a+1,a+1,m,hcl.symm,hlt,p7,Bl.keep sb5 (k6.trans k7) (by simpa using hbc.symm),hK5.trans ((k6.trans k7).mono (by simp))⟩
      | true=>
       have p6:Pr w6 b q src (a+2) (-1):=p6
       have h2s:a+2≤src.size:=saw_lt h58
       obtain ⟨i,p,hR⟩:∃ i p,namedF (src.data.toList.drop (a+2)) (a+2) 7 0 (a+2)=(i,p):=⟨_,_,rfl⟩
       have hN:=named_any p6 h2s
       rw [hR] at hN
       have hI:=item_named m h91 h58 hR
       have HN:=hid hN
       clear hN hR
       go_wp2_with fail
       refine HN.out.mono ?_
       rintro e w7 ⟨rfl,k7⟩
       have p7:=p6.keep k7 (by simp)
       have H7:=hid (And.intro k6 k7)
       clear k6 k7 p6 HN
       rcases hI with ⟨hi7,hI,hps⟩ | ⟨rfl,hI⟩
       ·have en:nmO i=nmN i:=by unfold nmO;rw [if_pos hi7]
        have ne:(nmN i).toList.isEmpty=false:=nmN_ne
        dsimp only
        rw [en]
        have c1:=p7.c1
        have f1:=p7.free 1
        have HI:=hid (And.intro hI hps)
        have P8:=hid (p7.goto p (by omega))
        clear hI en hps
        go_wp2_with fail
        go_loopw [9] (fun cv wr=>∃ c:Nat,c≤256∧cv=.int .i64 c∧Pr wr b q src p (-1)∧Sb wr cb (wnT m i c)∧Kp [b,cb] w3 wr) (fun cv _=>256 - (intOf cv).toNat)
        case atStart=>
         obtain ⟨k6,k7⟩:=H7.out
         obtain ⟨hK5,sb5,k5⟩:=H5.out
         have k68:Kp [b] w5 (w7.setCell ⟨b,1,none⟩ (.int .i64 (p:Int))):=k6.trans ((k7.mono (by simp)).trans (Kp.setCell _ _ (by simp)))
         exact ⟨0,by omega,rfl,P8.out,Sb.congr (Bl.keep sb5 k68 (by simpa using hbc.symm)) (fun x _=>by unfold wnT;rw [if_neg (by omega)]),hK5.trans (k68.mono (by simp))⟩
        case round=>
         obtain ⟨c,hc,rfl,pc,sc,kc⟩:=hrel
         clear c1 f1 p7
         by_cases hlt:c < 256
         ·have gg:=sc.get hlt
          obtain ⟨mb,hmb⟩:∃ mb,mb=m c:=⟨_,rfl⟩
          have g1:wr.cell? ⟨cb,1+c,none⟩=some (.bool mb):=by rw [gg.1];unfold wnT;rw [if_neg (by omega),hmb]
          have g2:=gg.2
          obtain ⟨wb,hwb⟩:∃ wb,wb=wthF i c:=⟨_,rfl⟩
          have hW:=within_any (w:=wr) hi7 hlt
          rw [←hwb] at hW
          have HW:=hid hW
          have hc1:IntKind.i64.wrap ((c:Int)+1)=((c+1:Nat):Int):=wrap_i64_succ c (c+1) rfl (by omega)
          have hcI:(c:Int) < 256:=by omega
          have Fin:∀ y:Bool,y=(mb || wb)→Pr (wr.setCell ⟨cb,1+c,none⟩ (.bool y)) b q src p (-1)∧Sb (wr.setCell ⟨cb,1+c,none⟩ (.bool y)) cb (wnT m i (c+1))∧Kp [b,cb] w3 (wr.setCell ⟨cb,1+c,none⟩ (.bool y)):=fun y hy=>by
           refine ⟨pc.keep (Kp.setCell (S:=[cb]) wr (p:=⟨cb,1+c,none⟩) _ (by simp)) (by simpa using hbc),(sc.put hlt y).congr fun x _=>?_,kc.trans (Kp.setCell (S:=[b,cb]) wr (p:=⟨cb,1+c,none⟩) _ (by simp))⟩
           unfold upd wnT
           by_cases e:x=c
           ·subst e;rw [if_pos rfl,if_pos (by omega),hy,hmb,hwb]
           ·by_cases e2:x < c
            ·rw [if_neg e,if_pos e2,if_pos (by omega)]
            ·rw [if_neg e,if_neg e2,if_neg (by omega)]
          have FIN:=hid Fin
          have HL:=hid hlt
          clear pc sc kc gg hmb hwb hW Fin
          cases mb
          all_goals
           go_wp2_with fail
           refine HW.out.mono ?_
           rintro e w12 ⟨rfl,rfl⟩
           go_wp2_with fail
           go_roundw
           ·exact ⟨c+1,by have:=HL.out;omega,by go_num,FIN.out _ (by simp)⟩
           ·have:=HL.out
            simp [intOf];omega
         ·have c256:c=256:=by omega
          have q1:¬ (c:Int) < 256:=by omega
          have HC:=hid (And.intro pc (And.intro sc (And.intro kc c256)))
          clear pc sc kc c256 hlt
          go_wp2_with fail
          go_meet
          case rel=>
           obtain ⟨pc,sc,kc,rfl⟩:=HC.out
           exact .inl ⟨p,_,HI.out.1,HI.out.2,pc,sc.congr (fun x hx=>by rw [within_eq m hi7 hx];unfold wnT;rw [if_pos hx]),kc⟩
       ·have en:nmO 7=(⟨#[]⟩:ByteArray):=rfl
        dsimp only
        rw [en]
        have HI:=hid hI
        clear hI en
        go_wp2_with fail
        refine (failR_first p7 p (by omega)).mono ?_
        rintro e w8 ⟨rfl,p8,k8⟩
        have H8:=hid (And.intro p8 k8)
        clear p8 k8 p7
        go_wp2_with fail
        go_meet
        case rel=>
         obtain ⟨hcl,ha,hn',sa,ka,pa⟩:=HX.out
         obtain ⟨p8,k8⟩:=H8.out
         obtain ⟨k6,k7⟩:=H7.out
         obtain ⟨hK5,sb5,k5⟩:=H5.out
         unfold clsF at hcl
         rw [HI.out] at hcl
         have k68:Kp [b] w5 w8:=k6.trans ((k7.mono (by simp)).trans k8)
         exact .inr ⟨p,a+2,m,hcl.symm,h2s,p8,Bl.keep sb5 k68 (by simpa using hbc.symm),hK5.trans (k68.mono (by simp))⟩
     | false=>
      have p5:Pr w5 b q src a (-1):=p5
      have ei:itemP src a m=match bytP src clSpecial clEscaped a with
        | .error pl=>.error pl
        | .ok (l,x)=>if saw src l 45 then
          (match bytP src clSpecial clEscaped (l+1) with
            | .error pl=>.error pl
            | .ok (l2,y)=>if y < x then .error (l+1) else .ok (l2,span m x (y+1)))
         else .ok (l,span m x (x+1)):=by unfold itemP;rw [h91,if_neg (by simp)];rfl
      cases e1:bytP src clSpecial clEscaped a with
      | error pl=>
       rw [e1] at ei
       have ei:itemP src a m=.error pl:=ei
       have HE:=hid (And.intro ei e1)
       clear ei e1
       go_wp2_with fail
       refine (item_err p5 ha (by omega) HE.out.2).mono ?_
       rintro e w6 ⟨rfl,⟨a',ha',p6⟩,k6⟩
       have H6:=hid (And.intro ha' (And.intro p6 k6))
       clear ha' k6 p5
       go_wp2_with fail
       refine (okR_any p6 (v:=false) (by simp)).mono ?_
       rintro e w7 ⟨rfl,rfl⟩
       go_wp2_with fail
       go_loopw [14] (fun cv wr=>cv=.int .i64 0∧wr=w7) (fun _ _=>0)
       case atStart=>exact ⟨rfl,rfl⟩
       case round=>
        obtain ⟨rfl,rfl⟩:=hrel
        go_wp2_with fail
        refine (okR_any p6 (v:=false) (by simp)).mono ?_
        rintro e w12 ⟨rfl,rfl⟩
        go_wp2_with fail
        go_meet
        case rel=>
         obtain ⟨ha',p6,k6⟩:=H6.out
         obtain ⟨hK5,sb5,k5⟩:=H5.out
         exact .inr ⟨pl,a',m,HE.out.1,ha',p6,Bl.keep sb5 k6 (by simpa using hbc.symm),hK5.trans (k6.mono (by simp))⟩
      | ok z1=>
       obtain ⟨l,x⟩:=z1
       rw [e1] at ei
       have hxl:=bytP_lt ha e1
       have HE:=hid e1
       clear e1
       go_wp2_with fail
       refine (item_ok p5 HE.out).mono ?_
       rintro e w6 ⟨rfl,p6,k6⟩
       go_wp2_with fail
       refine (okR_any p6 (v:=true) (by simp)).mono ?_
       rintro e w7 ⟨rfl,rfl⟩
       go_wp2_with fail
       obtain ⟨y45,h45⟩:∃ y,saw src l 45=y:=⟨_,rfl⟩
       refine (takeR_any 45 p6 h45).mono ?_
       rintro e w8 ⟨rfl,p8,k8⟩
       have hx256:x < 256:=byt_256 HE.out
       have hK8:Kp [b,cb] w3 w8:=H5.out.1.trans ((k6.trans k8).mono (by simp))
       have sb8:Sb w8 cb m:=Bl.keep H5.out.2.1 (k6.trans k8) (by simpa using hbc.symm)
       have H8:=hid (And.intro hK8 (And.intro sb8 (And.intro hxl hx256)))
       rw [h45] at ei
       have HI:=hid ei
       clear hK8 sb8 k6 k8 p6 p5 hxl ei
       go_upto_if 75 with fail
       go_cut [11,12,74,75] from 200 (fun av bv _ _ wx=>RgO src b q cb a m (itemP src a m) w3 av bv wx)
       case first=>
        cases y45 with
        | false=>
         have p8:Pr w8 b q src l (-1):=p8
         go_wp2_with fail
         go_meet
         case rel=>
          obtain ⟨hK8,sb8,hxl,hx256⟩:=H8.out
          exact .inl ⟨l,x,x,rfl,rfl,Nat.le_refl _,hx256,by have:=HI.out;simpa using this,hxl.2,p8,sb8,hK8⟩
        | true=>
         have p8:Pr w8 b q src (l+1) (-1):=p8
         have c1:=p8.c1
         have hl1:l+1≤src.size:=saw_lt h45
         cases e2:bytP src clSpecial clEscaped (l+1) with
         | error pl2=>
          have hi2:itemP src a m=.error pl2:=by have:=HI.out;rw [e2] at this;simpa using this
          have HE2:=hid (And.intro e2 hi2)
          clear e2 hi2
          go_wp2_with fail
          refine (item_err p8 hl1 (by omega) HE2.out.1).mono ?_
          rintro e w9 ⟨rfl,⟨a9,ha9,p9⟩,k9⟩
          have H9:=hid (And.intro p9 (And.intro k9 (And.intro ha9 H8.out)))
          clear p8 k9 c1 H8
          by_cases hx0:0 < x
          ·have q0:(0:Int) < (x:Int):=by omega
           go_wp2_with fail
           refine (failR_late p9 _ (by omega)).mono ?_
           rintro e w10 ⟨rfl,rfl⟩
           go_wp2_with fail
           go_meet
           case rel=>
            obtain ⟨p9,k9,ha9,hK8,sb8,hxl,hx256⟩:=H9.out
            exact .inr ⟨pl2,a9,x,0,rfl,rfl,HE2.out.2,⟨Nat.le_trans (Nat.le_of_lt hxl.1) (Nat.le_trans (Nat.le_succ _) ha9.1),ha9.2⟩,p9,Bl.keep sb8 k9 (by simpa using hbc.symm),hK8.trans (k9.mono (by simp))⟩
          ·have q0:¬ (0:Int) < (x:Int):=by omega
           go_wp2_with fail
           go_meet
           case rel=>
            obtain ⟨p9,k9,ha9,hK8,sb8,hxl,hx256⟩:=H9.out
            exact .inr ⟨pl2,a9,x,0,rfl,rfl,HE2.out.2,⟨Nat.le_trans (Nat.le_of_lt hxl.1) (Nat.le_trans (Nat.le_succ _) ha9.1),ha9.2⟩,p9,Bl.keep sb8 k9 (by simpa using hbc.symm),hK8.trans (k9.mono (by simp))⟩
         | ok z2=>
          obtain ⟨l2,y⟩:=z2
          have hl2:=bytP_lt hl1 e2
          have hy256:=byt_256 e2
          have hi2:itemP src a m=if y < x then .error (l+1) else .ok (l2,span m x (y+1)):=by have:=HI.out;rw [e2] at this;simpa using this
          have HE2:=hid (And.intro e2 (And.intro hl2 hy256))
          clear e2 hl2 hy256
          go_wp2_with fail
          refine (item_ok p8 HE2.out.1).mono ?_
          rintro e w9 ⟨rfl,p9,k9⟩
          have H9:=hid (And.intro p9 (And.intro k9 H8.out))
          clear p8 k9 c1 H8
          by_cases hyx:y < x
          ·have q0:(y:Int) < (x:Int):=by omega
           rw [if_pos hyx] at hi2
           have HI2:=hid hi2
           clear hi2 hyx
           go_wp2_with fail
           refine (failR_first p9 (l+1) (by omega)).mono ?_
           rintro e w10 ⟨rfl,p10,k10⟩
           have H10:=hid (And.intro p10 k10)
           clear p10 k10 p9
           go_wp2_with fail
           go_meet
           case rel=>
            obtain ⟨p9,k9,hK8,sb8,hxl,hx256⟩:=H9.out
            obtain ⟨p10,k10⟩:=H10.out
            have:=HE2.out.2.1
            exact .inr ⟨l+1,l2,x,y,rfl,rfl,HI2.out,⟨by omega,this.2⟩,p10,Bl.keep sb8 (k9.trans k10) (by simpa using hbc.symm),hK8.trans ((k9.trans k10).mono (by simp))⟩
          ·have q0:¬ (y:Int) < (x:Int):=by omega
           rw [if_neg hyx] at hi2
           have HI2:=hid (And.intro hi2 hyx)
           clear hi2 hyx p9
           go_wp2_with fail
           go_meet
           case rel=>
            obtain ⟨p9,k9,hK8,sb8,hxl,hx256⟩:=H9.out
            have:=HE2.out.2
            exact .inl ⟨l2,x,y,rfl,rfl,by have:=HI2.out.2;omega,this.2,HI2.out.1,this.1.2,p9,Bl.keep sb8 k9 (by simpa using hbc.symm),hK8.trans (k9.mono (by simp))⟩
       case rest=>
        clear H8 p8 HI
        rcases hcut with ⟨l',x',y',rfl,rfl,hxy,hy256,hr,hl',pl',sl',kl'⟩ | ⟨pl,a',x',y',rfl,rfl,hr,ha',pl',sl',kl'⟩
        ·have HR:=hid (And.intro hr (And.intro hl' (And.intro hxy hy256)))
         clear hr hl'
         go_wp2_with fail
         go_loopw [14] (fun cv wr=>∃ c:Nat,x'≤c∧c≤y'+1∧cv=.int .i64 c∧Pr wr b q src l' (-1)∧Sb wr cb (span m x' c)∧Kp [b,cb] w3 wr) (fun cv _=>300 - (intOf cv).toNat)
         case atStart=>exact ⟨x',Nat.le_refl _,by omega,rfl,pl',by rw [span_none];exact sl',kl'⟩
         case round=>
          obtain ⟨c,hc1,hc2,rfl,pc,sc,kc⟩:=hrel
          by_cases hcy:c≤y'
          ·have gg:=sc.get (c:=c) (by omega)
           have g1:=gg.1
           have g2:=gg.2
           have hcyI:(c:Int)≤(y':Int):=by omega
           have hcI:(c:Int) < 256:=by omega
           have hw1:IntKind.i64.wrap ((c:Int)+1)=((c+1:Nat):Int):=wrap_i64_succ c (c+1) rfl (by omega)
           have HC:=hid (And.intro pc (And.intro sc (And.intro kc (And.intro hc1 hcy))))
           clear sc kc gg pl' sl' kl'
           go_wp2_with fail
           refine (okR_any pc (v:=true) (by simp)).mono ?_
           rintro e w12 ⟨rfl,rfl⟩
           clear pc
           go_wp2_with fail
           go_roundw
           ·obtain ⟨pc,sc,kc,hc1,hcy⟩:=HC.out
            refine ⟨c+1,by omega,by omega,by go_num,?_,?_,?_⟩
            ·exact pc.keep (Kp.setCell (S:=[cb]) _ (p:=⟨cb,1+c,none⟩) _ (by simp)) (by simpa using hbc)
            ·rw [←span_more m x' c hc1,←upd_more]
             exact sc.put (by omega) true
            ·exact kc.trans (Kp.setCell (S:=[b,cb]) _ (p:=⟨cb,1+c,none⟩) _ (by simp))
           ·have:=HC.out.2.2.2
            simp [intOf];omega
          ·have hcyI:¬ (c:Int)≤(y':Int):=by omega
           have hce:c=y'+1:=by omega
           have HC:=hid (And.intro pc (And.intro sc (And.intro kc hce)))
           clear sc kc pl' sl' kl' pc hce hcy
           go_wp2_with fail
           go_meet
           case rel=>
            obtain ⟨pc,sc,kc,rfl⟩:=HC.out
            exact .inl ⟨l',_,HR.out.1,HR.out.2.1,pc,sc,kc⟩
        ·have HR:=hid (And.intro hr (And.intro ha' (And.intro pl' (And.intro sl' kl'))))
         clear hr ha' sl' kl'
         go_wp2_with fail
         go_loopw [14] (fun cv wr=>cv=.int .i64 (x':Int)∧wr=wc) (fun _ _=>0)
         case atStart=>exact ⟨rfl,rfl⟩
         case round=>
          obtain ⟨rfl,rfl⟩:=hrel
          by_cases hxy:x'≤y'
          ·have hI:(x':Int)≤(y':Int):=by omega
           go_wp2_with fail
           refine (okR_any pl' (v:=false) (by simp)).mono ?_
           rintro e w12 ⟨rfl,rfl⟩
           go_wp2_with fail
           go_meet
           case rel=>
            obtain ⟨hr,ha',pl',sl',kl'⟩:=HR.out
            exact .inr ⟨pl,a',m,hr,ha',pl',sl',kl'⟩
          ·have hI:¬ (x':Int)≤(y':Int):=by omega
           clear pl'
           go_wp2_with fail
           go_meet
           case rel=>
            obtain ⟨hr,ha',pl',sl',kl'⟩:=HR.out
            exact .inr ⟨pl,a',m,hr,ha',pl',sl',kl'⟩
   ·go_wp2_with fail
    go_meet
    case rel=>exact .inl ⟨a,m,hr,ha,pa,sa,ka⟩
   ·have HX:=hid (And.intro hr (And.intro ha (And.intro pa (And.intro sa ka))))
    clear hr ha sa ka
    cases y with
    | true=>
     go_wp2_with fail
     refine (okR_any pa (v:=false) (by simp)).mono ?_
     rintro e w4 ⟨rfl,rfl⟩
     go_wp2_with fail
     go_meet
     case rel=>
      obtain ⟨hr,ha,pa,sa,ka⟩:=HX.out
      exact .inr ⟨pl,a,m,hr,ha,pa,sa,ka⟩
    | false=>
     go_wp2_with fail
     go_meet
     case rel=>
      obtain ⟨hr,ha,pa,sa,ka⟩:=HX.out
      exact .inr ⟨pl,a,m,hr,ha,pa,sa,ka⟩
 case rest=>
  have hx:∃ (bd:Int) (a:Nat) (m mm:Nat→Bool),a≤src.size∧Pr wc b q src a bd∧Sb wc cb m∧Kp [b,cb] w3 wc∧Hid (ClFin src k a mm bd)∧Hid (∀ x,x < 256→ngT m nt 256 x=mm x):=by
   have hng:∀ m:Nat→Bool,∀ x,x < 256→ngT m nt 256 x=(if nt then fun x=>!m x else m) x:=fun m x hx=>by
    unfold ngT
    rw [if_pos hx]
    cases nt <;> simp
   rcases hcut with ⟨a,m,hr,ha,pa,sa,ka⟩ | ⟨pl,a,m,hr,ha,pa,sa,ka⟩
   ·exact ⟨-1,a,m,_,by omega,pa,sa,ka,hid (by unfold ClFin;rw [H1.out.1,hr];exact ⟨rfl,rfl,rfl⟩),hid (hng m)⟩
   ·exact ⟨pl,a,m,_,ha,pa,sa,ka,hid (by unfold ClFin;rw [H1.out.1,hr];rfl),hid (hng m)⟩
  obtain ⟨bd,a,m,mm,ha,pa,sa,ka,HF,HM⟩:=hx
  clear hcut pr3 sb3 hk1s
  have c1:=pa.c1
  have f1:=pa.free 1
  have hw:IntKind.i64.wrap ((a:Int)+1)=((a+1:Nat):Int):=wrap_i64_succ a (a+1) rfl (by omega)
  have HA:=hid (And.intro pa (And.intro sa (And.intro ka ha)))
  clear pa sa ka
  go_wp2_with fail
  go_loopw [15] (fun cv wr=>∃ c:Nat,c≤256∧cv=.int .i64 c∧Pr wr b q src (a+1) bd∧Sb wr cb (ngT m nt c)∧Kp [b,cb] w3 wr) (fun cv _=>256 - (intOf cv).toNat)
  case atStart=>
   obtain ⟨pa,sa,ka,ha⟩:=HA.out
   refine ⟨0,by omega,rfl,?_,?_,?_⟩
   ·exact pa.goto (a+1) (by omega)
   ·have:=Bl.keep sa (Kp.setCell (S:=[b]) wc (p:=⟨b,1,none⟩) (.int .i64 ((a+1:Nat):Int)) (by simp)) (by simpa using hbc.symm)
    exact Sb.congr this fun x _=>by unfold ngT;rw [if_neg (by omega)]
   ·exact ka.trans (Kp.setCell (S:=[b,cb]) wc (p:=⟨b,1,none⟩) (.int .i64 ((a+1:Nat):Int)) (by simp))
  case round=>
   obtain ⟨c,hc,rfl,pc,sc,kc⟩:=hrel
   by_cases hlt:c < 256
   ·have gg:=sc.get hlt
    have g1:wr.cell? ⟨cb,1+c,none⟩=some (.bool (m c)):=by rw [gg.1];unfold ngT;rw [if_neg (by omega)]
    have g2:=gg.2
    clear gg
    have hc1:IntKind.i64.wrap ((c:Int)+1)=((c+1:Nat):Int):=wrap_i64_succ c (c+1) rfl (by omega)
    have hcI:(c:Int) < 256:=by omega
    have HC:=hid (And.intro pc (And.intro sc (And.intro kc hlt)))
    clear pc sc kc c1 f1
    go_wp2_with fail
    go_roundw
    ·obtain ⟨pc,sc,kc,hlt⟩:=HC.out
     refine ⟨c+1,by omega,by go_num,?_,?_,?_⟩
     ·exact pc.keep (Kp.setCell (S:=[cb]) wr (p:=⟨cb,1+c,none⟩) _ (by simp)) (by simpa using hbc)
     ·refine (sc.put hlt (!(m c == nt))).congr fun x _=>?_
      unfold upd ngT
      by_cases e:x=c
      ·subst e;rw [if_pos rfl,if_pos (by omega)];rfl
      ·by_cases e2:x < c
       ·rw [if_neg e,if_pos e2,if_pos (by omega)]
       ·rw [if_neg e,if_neg e2,if_neg (by omega)]
     ·exact kc.trans (Kp.setCell (S:=[b,cb]) wr (p:=⟨cb,1+c,none⟩) _ (by simp))
    ·have:=HC.out.2.2.2
     simp [intOf];omega
   ·have c256:c=256:=by omega
    have sc2:Sb wr cb mm:=sc.congr fun x hx=>by rw [c256];exact HM.out x hx
    obtain ⟨h,k2,hcb⟩:=H0.out
    have kw:Kp [b] w wr:=by
     have:=((k2.mono (T:=[cb,b]) (by simp)).trans ((H1.out.2.1.mono (T:=[cb,b]) (by simp)).trans (kc.mono (T:=[cb,b]) (by simp [or_comm])))).own (Nat.le_of_eq hcb.symm)
     exact this
    have ps:=h.move kw (by simp) pc
    have RG:=hid (Bl.range sc2)
    have PS:=hid (And.intro ps kw)
    have q1:¬ (c:Int) < 256:=by omega
    clear sc sc2 pc kc h k2 hcb kw ps c256 hlt hc c1 f1
    go_wp2_with (first | (refine wpList_load_mid rfl 192 (.tmp 3) rfl cb 0 rfl (ndC (setN mm) noK) _ RG.out Tryz.underlying192 rfl (by rw [ndC_len];exact Tryz.szNodeR) ?_) | fail)
    refine (node_push PS.out.1 (setN mm) (Kd.nil _ _ _) hn).mono ?_
    rintro e w4 ⟨rfl,v',p4,k4⟩
    have P4:=hid (And.intro p4 (Pk.trans (Pk.of_kp (b:=b) (q:=q) (v:=v) PS.out.2 (by simp)) k4))
    clear p4 k4
    go_wp2_with fail
    go_ret
    refine ⟨rfl,v',P4.out.2,?_⟩
    have hf:=HF.out
    unfold ClFin at hf
    have p4:=P4.out.1
    cases hc:classP src src.size k with
    | error pl=>
     rw [hc] at hf
     have hf:bd=(pl:Nat):=hf
     rw [hf] at p4
     exact ⟨_,_,p4⟩
    | ok z=>
     obtain ⟨l,m'⟩:=z
     rw [hc] at hf
     obtain ⟨rfl,rfl,rfl⟩:=hf
     exact p4
end
section
variable {w w' w1:World} {B b q:Nat} {src:ByteArray} {k g:Nat} {bad:Int}
theorem dig_pk:(decide (48≤pk src k) && decide (pk src k≤57))=dig src k:=by
 unfold dig
 split
 ·rename_i h
  rw [pk_lt h,Bool.eq_iff_iff]
  simp only [Bool.and_eq_true,decide_eq_true_eq]
  omega
 ·rename_i h
  rw [pk_end h];rfl
theorem pk_dig (h:dig src k=true):∃ hk:k < src.size,pk src k=((dgP src k+48:Nat):Int)∧dgP src k≤9:=by
 obtain ⟨hk,h1,h2⟩:=dig_lt h
 refine ⟨hk,?_,?_⟩
 ·rw [pk_lt hk,dgP,dif_pos hk];omega
 ·rw [dgP,dif_pos hk];omega
def NumI (src:ByteArray) (k j n:Nat):Prop:=(j=0∧n=0)∨(j=1∧dig src k=true∧n=dgP src k)∨(j=2∧dig src k=true∧dig src (k+1)=true∧n=10 * dgP src k+dgP src (k+1))
def nbd (k j n:Nat):Int:=if j=2∧20 < n then ((k+1:Nat):Int) else -1
def NumL (src:ByteArray) (b q k:Nat) (w:World) (nv dv:Value) (wx:World):Prop:=
 ∃ j n:Nat,nv=.int .i64 n∧dv=.bool (dig src (k+j))∧NumI src k j n∧(j < 2→dig src (k+j)=false)∧k+j≤src.size∧n≤99∧Pr wx b q src (k+j) (nbd k j n)∧Kp [b] w wx
def NumO (src:ByteArray) (b q k least:Nat) (w:World) (e:Ending) (w':World):Prop:=∃ (n l:Nat) (bd:Int),e=.returned (.int .i64 n)∧n≤99∧l≤src.size∧Pr w' b q src l bd∧Kp [b] w w'∧match numP src k with
 | .error pl=>bd=(pl:Nat)
 | .ok (l',v)=>n=v∧l=l'∧bd=if v < least∧l < src.size∧dig src l=false then ((l - 1:Nat):Int) else -1
theorem num_fin {least j n:Nat} {bd bd':Int} {d:Bool} (hI:NumI src k j n) (hd:dig src (k+j)=d) (hj:j < 2→d=false) (hbd:bd=if j=0 then (k:Int) else nbd k j n)
  (hb:bd'=if bd < 0∧n < least∧k+j < src.size∧d=false then ((k+j - 1:Nat):Int) else bd):match numP src k with
 | .error pl=>bd'=(pl:Nat)
 | .ok (l',v)=>n=v∧k+j=l'∧bd'=if v < least∧k+j < src.size∧dig src (k+j)=false then ((k+j - 1:Nat):Int) else -1:=by
 unfold numP
 rcases hI with ⟨rfl,rfl⟩ | ⟨rfl,e1,e2⟩ | ⟨rfl,e1,e2,e3⟩
 ·have e:=hj (by omega)
  rw [if_pos rfl] at hbd
  rw [Nat.add_zero] at hd
  rw [if_neg (by rw [hd,e];simp)]
  rw [if_neg (by omega)] at hb
  rw [hb,hbd]
 ·have e:=hj (by omega)
  rw [if_neg (by omega)] at hbd
  have hbd':bd = -1:=by rw [hbd];unfold nbd;rw [if_neg (by omega)]
  rw [if_pos e1,if_neg (by rw [hd,e];simp)]
  refine ⟨e2,rfl,?_⟩
  rw [hb,hbd',hd,←e2]
  by_cases hc:n < least∧k+1 < src.size∧d=false
  ·rw [if_pos hc,if_pos ⟨by omega,hc⟩]
  ·rw [if_neg hc,if_neg (fun h=>hc h.2)]
 ·rw [if_neg (by omega)] at hbd
  rw [if_pos e1,if_pos e2,←e3]
  by_cases hn:20 < n
  ·rw [if_pos hn]
   have hbd':bd=((k+1:Nat):Int):=by rw [hbd];unfold nbd;rw [if_pos ⟨rfl,hn⟩]
   rw [if_neg (by omega)] at hb
   rw [hb,hbd']
  ·rw [if_neg hn]
   have hbd':bd = -1:=by rw [hbd];unfold nbd;rw [if_neg (fun h=>hn h.2)]
   refine ⟨rfl,rfl,?_⟩
   rw [hb,hbd',hd]
   by_cases hc:n < least∧k+2 < src.size∧d=false
   ·rw [if_pos hc,if_pos ⟨by omega,hc⟩]
   ·rw [if_neg hc,if_neg (fun h=>hc h.2)]
theorem number_r (h:Pr w b q src k (-1)) (hk:k≤src.size) (least:Nat) (hle:least≤99):Calls Tryz.prog 211 #[.pointer (some ⟨b,0,none⟩),.int .i64 least] w (NumO src b q k least w):=by
 have c1:=h.c1
 have hsm:=h.small
 obtain ⟨z0,hz0⟩:∃ z,pk src k=z:=⟨_,rfl⟩
 obtain ⟨d0,hd0⟩:∃ d,dig src k=d:=⟨_,rfl⟩
 have hdz:(decide (48≤z0) && decide (z0≤57))=d0:=by rw [←hz0,dig_pk,hd0]
 have HZ:=hid (And.intro hz0 (And.intro hd0 hdz))
 clear hz0 hd0 hdz
 go_enter Tryz.func211,Tryz.ntmps211
 go_wp2_with fail
 refine (peekR_v h HZ.out.1).mono ?_
 rintro e w1 ⟨rfl,n1,rfl⟩
 go_wp2_with fail
 refine (isDigit_any z0).mono ?_
 rw [HZ.out.2.2]
 rintro e w1 ⟨rfl,rfl⟩
 have p1:=h.drewN n1
 clear h c1
 go_upto_block 0 with fail
 go_cut [6,7] from 15 (fun nv dv wx=>NumL src b q k w nv dv wx)
 case first=>
  go_wp2_with fail
  go_loopw [6,7] (fun nv dv wr=>∃ j n:Nat,j≤2∧nv=.int .i64 n∧dv=.bool (dig src (k+j))∧NumI src k j n∧k+j≤src.size∧n≤99∧Pr wr b q src (k+j) (nbd k j n)∧Kp [b] w wr) (fun _ _ wr=>psM wr b)
  case atStart=>exact ⟨0,0,by omega,rfl,by rw [Nat.add_zero,HZ.out.2.1],.inl ⟨rfl,rfl⟩,hk,by omega,p1,Kp.drewN _ _ _⟩
  case round=>
   obtain ⟨j,n,hj,rfl,rfl,hI,hkj,hn,pr,kp⟩:=hrel
   have hsub:IntKind.i64.wrap (((k+j:Nat):Int) - (k:Int))=(j:Int):=by rw [IntKind.wrap_i64];omega
   obtain ⟨kj,hkj'⟩:∃ kj,kj=k+j:=⟨_,rfl⟩
   rw [←hkj'] at hsub pr hkj
   obtain ⟨y,hy⟩:∃ y,dig src kj=y:=⟨_,rfl⟩
   have hy':dig src (k+j)=y:=by rw [←hkj'];exact hy
   rw [hy']
   have c1:=pr.c1
   have f1:=pr.free 1
   have HP:=hid (And.intro hI (And.intro hn (And.intro kp (And.intro hy (And.intro hkj' hj)))))
   clear hI kp hy hy' hkj' p1
   cases y with
   | false=>
    go_wp2_with fail
    go_meet
    case rel=>
     obtain ⟨hI,hn,kp,hy,rfl,hj⟩:=HP.out
     exact ⟨j,n,rfl,by rw [hy],hI,fun _=>hy,hkj,hn,pr,kp⟩
   | true=>
    by_cases hj2:j < 2
    ·have q2:(j:Int) < 2:=by omega
     obtain ⟨hlt,hpk,hd9⟩:=pk_dig HP.out.2.2.2.1
     obtain ⟨dd,hdd⟩:∃ dd,dd=dgP src kj:=⟨_,rfl⟩
     rw [←hdd] at hpk hd9
     have hn9:n≤9:=by
      rcases HP.out.1 with ⟨_,e⟩ | ⟨_,e1,e2⟩ | ⟨e,_⟩
      ·omega
      ·have:=(pk_dig e1).2.2;omega
      ·omega
     obtain ⟨T,hT⟩:∃ T:Int,T=10 * (n:Int):=⟨_,rfl⟩
     obtain ⟨U,hU⟩:∃ U:Int,U=T+((dd+48:Nat):Int):=⟨_,rfl⟩
     obtain ⟨N1,hN1⟩:∃ N1,N1=10 * n+dd:=⟨_,rfl⟩
     have w1:IntKind.i64.wrap (10 * (n:Int))=T:=by rw [IntKind.wrap_i64];omega
     have w2:IntKind.i64.wrap (T+((dd+48:Nat):Int))=U:=by rw [IntKind.wrap_i64];omega
     have w3:IntKind.i64.wrap (U - 48)=(N1:Int):=by rw [IntKind.wrap_i64];omega
     have w4:IntKind.i64.wrap ((kj:Int)+1)=((kj+1:Nat):Int):=wrap_i64_succ kj (kj+1) rfl (by omega)
     obtain ⟨zz,hzz⟩:∃ zz:Int,zz=((dd+48:Nat):Int):=⟨_,rfl⟩
     rw [←hzz] at hpk w2
     obtain ⟨z2,hz2⟩:∃ z,pk src (kj+1)=z:=⟨_,rfl⟩
     obtain ⟨y2,hy2⟩:∃ d,dig src (kj+1)=d:=⟨_,rfl⟩
     have hdz2:(decide (48≤z2) && decide (z2≤57))=y2:=by rw [←hz2,dig_pk,hy2]
     have hb1:nbd k j n < 0:=by unfold nbd;rw [if_neg (by omega)];omega
     have hS:NumI src k (j+1) N1∧N1≤99∧(20 < N1→j=1)∧k+(j+1)=kj+1:=by
      have hy:=HP.out.2.2.2.1
      have hkj:=HP.out.2.2.2.2.1
      refine ⟨?_,by omega,?_,by omega⟩
      ·rcases HP.out.1 with ⟨e1,e2⟩ | ⟨e1,e2,e3⟩ | ⟨e1,_⟩
       ·refine .inr (.inl ⟨by omega,?_,?_⟩)
        ·rw [show k=kj by omega];exact hy
        ·rw [hN1,e2,hdd,show k=kj by omega];omega
       ·refine .inr (.inr ⟨by omega,e2,?_,?_⟩)
        ·rw [show k+1=kj by omega];exact hy
        ·rw [hN1,e3,hdd,show k+1=kj by omega]
       ·omega
      ·intro e
       rcases HP.out.1 with ⟨e1,e2⟩ | ⟨e1,e2,e3⟩ | ⟨e1,_⟩
       ·omega
       ·exact e1
       ·omega
     have HS:=hid hS
     clear hS
     have HQ:=hid (And.intro hlt (And.intro hdd (And.intro hN1 (And.intro hz2 (And.intro hy2 (And.intro hdz2 (And.intro hpk (And.intro hn9 (And.intro hd9 (And.intro pr hb1))))))))))
     clear hlt hdd hN1 hz2 hy2 hdz2 hT hU hzz hd9 hn9 hn hb1
     go_wp2_with fail
     refine (peekR_v pr HQ.out.2.2.2.2.2.2.1).mono ?_
     rintro e w5 ⟨rfl,n5,rfl⟩
     by_cases hbig:20 < N1
     ·have qb:(20:Int) < (N1:Int):=by omega
      go_wp2_with fail
      refine (failR_first (pr.drewN n5) kj HQ.out.2.2.2.2.2.2.2.2.2.2).mono ?_
      rintro e w6 ⟨rfl,p6,k6⟩
      have c6:=p6.c1
      have f6:=p6.free 1
      have P7:=p6.goto (kj+1) (by have:=HQ.out.1;omega)
      have H7:=hid (And.intro P7 (And.intro k6 hbig))
      clear c1 f1 pr k6 p6 hbig
      go_wp2_with fail
      refine (peekR_v P7 HQ.out.2.2.2.1).mono ?_
      rintro e w8 ⟨rfl,n8,rfl⟩
      clear P7
      go_wp2_with fail
      refine (isDigit_any z2).mono ?_
      rw [HQ.out.2.2.2.2.2.1]
      rintro e w9 ⟨rfl,rfl⟩
      go_wp2_with fail
      go_roundw
      ·obtain ⟨P7,k6,hbig⟩:=H7.out
       obtain ⟨s1,s2,s3,s4⟩:=HS.out
       refine ⟨j+1,N1,by omega,rfl,by rw [s4,HQ.out.2.2.2.2.1],s1,by have:=HQ.out.1;omega,s2,?_,HP.out.2.2.1.trans ((Kp.drewN _ _ _).trans (k6.trans ((Kp.setCell _ _ (by simp)).trans (Kp.drewN _ _ _))))⟩
       rw [s4]
       have e:nbd k (j+1) N1=(kj:Int):=by
        have:=s3 hbig
        unfold nbd;rw [if_pos ⟨by omega,hbig⟩];omega
       rw [e]
       exact P7.drewN _
      ·obtain ⟨P7,k6,hbig⟩:=H7.out
       rw [show ((kj:Int)+1)=((kj+1:Nat):Int) from rfl,(P7.drewN n8).psM,HQ.out.2.2.2.2.2.2.2.2.2.1.psM,if_neg (by omega),if_pos HQ.out.2.2.2.2.2.2.2.2.2.2]
       have:=HQ.out.1
       omega
     ·have qb:¬ (20:Int) < (N1:Int):=by omega
      have P7:=(pr.drewN n5).goto (kj+1) (by have:=HQ.out.1;omega)
      have H7:=hid (And.intro P7 hbig)
      clear pr hbig
      go_wp2_with fail
      refine (peekR_v P7 HQ.out.2.2.2.1).mono ?_
      rintro e w8 ⟨rfl,n8,rfl⟩
      clear P7
      go_wp2_with fail
      refine (isDigit_any z2).mono ?_
      rw [HQ.out.2.2.2.2.2.1]
      rintro e w9 ⟨rfl,rfl⟩
      go_wp2_with fail
      go_roundw
      ·obtain ⟨P7,hbig⟩:=H7.out
       obtain ⟨s1,s2,s3,s4⟩:=HS.out
       refine ⟨j+1,N1,by omega,rfl,by rw [s4,HQ.out.2.2.2.2.1],s1,by have:=HQ.out.1;omega,s2,?_,HP.out.2.2.1.trans ((Kp.drewN _ _ _).trans ((Kp.setCell _ _ (by simp)).trans (Kp.drewN _ _ _)))⟩
       rw [s4]
       have e:nbd k (j+1) N1=nbd k j n:=by
        unfold nbd;rw [if_neg (by omega),if_neg (by omega)]
       rw [e]
       exact P7.drewN _
      ·obtain ⟨P7,hbig⟩:=H7.out
       rw [show ((kj:Int)+1)=((kj+1:Nat):Int) from rfl,(P7.drewN n8).psM,HQ.out.2.2.2.2.2.2.2.2.2.1.psM]
       have:=HQ.out.1
       omega
    ·have q2:¬ (j:Int) < 2:=by omega
     go_wp2_with fail
     go_meet
     case rel=>
      obtain ⟨hI,hn,kp,hy,rfl,hj⟩:=HP.out
      exact ⟨j,n,rfl,by rw [hy],hI,fun e=>absurd e hj2,hkj,hn,pr,kp⟩
 case rest=>
  obtain ⟨j,n,rfl,rfl,hI,hj2,hkj,hn,pr,kp⟩:=hcut
  clear p1
  obtain ⟨kj,hkj'⟩:∃ kj,kj=k+j:=⟨_,rfl⟩
  rw [←hkj'] at pr hkj hj2 ⊢
  obtain ⟨y,hy⟩:∃ y,dig src kj=y:=⟨_,rfl⟩
  rw [hy] at hj2 ⊢
  -- where it failed,behind the test for no digit
  have hb:∃ bd:Int,(bd=if j=0 then (k:Int) else nbd k j n):=⟨_,rfl⟩
  obtain ⟨bd,hbd⟩:=hb
  have c1:=pr.c1
  have H1:=hid (And.intro hI (And.intro hj2 (And.intro hn (And.intro kp (And.intro hy hkj')))))
  clear hI hj2 kp hy hkj'
  go_upto_if 54 with fail
  go_cut [54] from 55 (fun _ wx=>Pr wx b q src kj bd∧Kp [b] w wx)
  case first=>
   by_cases j0:j=0
   ·have hkk:kj=k:=by have:=H1.out.2.2.2.2.2;omega
    subst hkk
    have q0:((kj:Int) == (kj:Int))=true:=by simp
    have hb0:nbd kj j n < 0:=by unfold nbd;rw [if_neg (by omega)];omega
    rw [if_pos j0] at hbd
    go_wp2_with fail
    refine (failR_first pr kj hb0).mono ?_
    rintro e w6 ⟨rfl,p6,k6⟩
    have H6:=hid (And.intro p6 k6)
    clear p6 k6 pr c1
    go_wp2_with fail
    go_meet
    case rel=>
     obtain ⟨p6,k6⟩:=H6.out
     exact ⟨by rw [hbd];exact p6,H1.out.2.2.2.1.trans k6⟩
   ·have hne:¬ (kj:Int)=(k:Int):=by have:=H1.out.2.2.2.2.2;omega
    have q0:((kj:Int) == (k:Int))=false:=by rw [beq_eq_false_iff_ne];exact hne
    rw [if_neg j0] at hbd
    go_wp2_with fail
    go_meet
    case rel=>exact ⟨by rw [hbd];exact pr,H1.out.2.2.2.1⟩
  case rest=>
   obtain ⟨p2,k2⟩:=hcut
   have c1:=p2.c1
   have c0:=p2.c0
   have H2:=hid (And.intro p2 (And.intro k2 hbd))
   clear k2 hbd pr
   have fin:∀ (wx:World) (bd':Int) (e:Ending),e=.returned (.int .i64 n)→Pr wx b q src kj bd'→Kp [b] w wx→(bd'=if bd < 0∧n < least∧kj < src.size∧y=false then ((kj - 1:Nat):Int) else bd)→NumO src b q k least w e wx:=by
    intro wx bd' e he hp hkp hb
    obtain ⟨hI,hj2,hn,kp,hy,hkk⟩:=H1.out
    subst hkk
    exact ⟨n,k+j,bd',he,hn,hkj,hp,hkp,num_fin hI hy hj2 H2.out.2.2 hb⟩
   have HF:=hid fin
   clear fin
   by_cases t1:n < least
   ·have u1:(n:Int) < (least:Int):=by omega
    cases y with
    | true=>
     go_wp2_with fail
     go_quiet (fail)
     go_wp2_with fail
     go_ret
     exact HF.out _ _ _ rfl (p2.drewN _) (H2.out.2.1.trans (Kp.drewN _ _ _)) (by rw [if_neg (by simp)])
    | false=>
     by_cases t3:kj < src.size
     ·have u3:(kj:Int) < (src.size:Int):=by omega
      have u3':decide (kj < src.size)=true:=by simpa using t3
      by_cases hb:bd < 0
      ·have hj0:kj≠0:=by
        intro e
        have h1:=H2.out.2.2
        have h2:=H1.out.2.2.2.2.2
        rw [if_pos (by omega)] at h1
        omega
       have w5:IntKind.i64.wrap ((kj:Int) - 1)=((kj - 1:Nat):Int):=by rw [IntKind.wrap_i64];omega
       go_wp2_with fail
       go_quiet (fail)
       go_wp2_with fail
       refine (failR_first (p2.drewN nq) (kj - 1) hb).mono ?_
       rintro e w6 ⟨rfl,p6,k6⟩
       have H6:=hid (And.intro p6 k6)
       clear p6 k6 p2 c1 c0
       go_wp2_with fail
       go_ret
       exact HF.out _ _ _ rfl H6.out.1 (H2.out.2.1.trans ((Kp.drewN _ _ _).trans H6.out.2)) (by rw [if_pos (by simp [hb,t1,t3])])
      ·obtain ⟨z5,w5⟩:∃ z,IntKind.i64.wrap ((kj:Int) - 1)=z:=⟨_,rfl⟩
       have HB:=hid hb
       clear hb
       go_wp2_with fail
       go_quiet (fail)
       go_wp2_with fail
       refine (failR_late (p2.drewN nq) z5 (by have:=HB.out;omega)).mono ?_
       rintro e w6 ⟨rfl,rfl⟩
       go_wp2_with fail
       go_ret
       exact HF.out _ _ _ rfl (p2.drewN _) (H2.out.2.1.trans (Kp.drewN _ _ _)) (by rw [if_neg (fun h=>by have:=HB.out;omega)])
     ·have u3:¬ (kj:Int) < (src.size:Int):=by omega
      have u3':decide (kj < src.size)=false:=by simpa using t3
      have HT:=hid t3
      clear t3
      go_wp2_with fail
      go_quiet (fail)
      go_wp2_with fail
      go_ret
      exact HF.out _ _ _ rfl (p2.drewN _) (H2.out.2.1.trans (Kp.drewN _ _ _)) (by rw [if_neg (fun h=>HT.out h.2.2.1)])
   ·have u1:¬ (n:Int) < (least:Int):=by omega
    have HT:=hid t1
    have t1':decide (n < least)=false:=by simpa using t1
    clear t1
    cases y
    all_goals
     go_wp2_with fail
     go_quiet (fail)
     go_wp2_with fail
     go_ret
     exact HF.out _ _ _ rfl (p2.drewN _) (H2.out.2.1.trans (Kp.drewN _ _ _)) (by rw [if_neg (fun h=>by have:=HT.out;omega)])
end
