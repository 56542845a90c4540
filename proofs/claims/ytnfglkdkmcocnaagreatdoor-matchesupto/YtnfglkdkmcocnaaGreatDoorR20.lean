import Derived.Test.YtnfglkdkmcocnaaGreatDoorR19
set_option maxRecDepth 100000
set_option maxHeartbeats 16000000
set_option linter.all false
namespace Go.Proofs.YtnfglkdkmcocnaaGreatDoor
open Go.RowKit
section
variable {w:World} {b k g pl:Nat} {src:ByteArray}
theorem dgP_eq (h:k < src.size):dgP src k=(src[k]'h).toNat - 48:=by unfold dgP;rw [dif_pos h]
theorem num_g:match numP src k with
  | .ok (l,v)=>NumOk src k l v∧v≤20∧k < l∧l≤src.size
  | .error pl=>∀ g,NumF src k g pl:=by
 unfold numP
 cases h1:dig src k
 ·rw [if_neg (by simp)]
  exact fun g=>numF_no h1
 ·rw [if_pos rfl]
  obtain ⟨hk,q1,q2⟩:=dig_lt h1
  cases h2:dig src (k+1)
  ·rw [if_neg (by simp)]
   refine ⟨.inl ⟨hk,h1,h2,rfl,dgP_eq hk⟩,?_,by omega,by omega⟩
   rw [dgP_eq hk];omega
  ·rw [if_pos rfl]
   obtain ⟨hk2,q3,q4⟩:=dig_lt h2
   by_cases hv:20 < 10 * dgP src k+dgP src (k+1)
   ·rw [if_pos hv]
    exact fun g=>numF_big hk hk2 h1 h2 (by rw [dgP_eq hk,dgP_eq hk2]) hv
   ·rw [if_neg hv]
    refine ⟨.inr ⟨hk,hk2,h1,h2,rfl,by rw [dgP_eq hk,dgP_eq hk2],?_,by omega⟩,by omega,by omega,by omega⟩
    rw [dgP_eq hk] at hv;omega
theorem upper_less {l least m:Nat} (hr:Rd w b src k g) (h125:saw src k 125=false) (hn:NumOk src k l m) (hlt:m < least) (hd:l=src.size∨dig src l=true) :
  Calls Tryz.prog 285 #[.pointer (some ⟨b,0,none⟩),.int .i64 least] w fun e w'=>e=.returned (.int .i64 m)∧Rd w' b src l g∧Kp [b] w w':=by
 have hcmp:(m:Int) < (least:Int):=by omega
 have hcmp':decide ((m:Int) < (least:Int))=true:=by simpa using hlt
 have hcmp2:decide (m < least)=true:=by simpa using hlt
 go_enter Tryz.func285,Tryz.ntmps285
 go_wp2_with fail
 refine (sees_r 125 hr h125).mono ?_
 rintro e u1 ⟨rfl,r1,s1⟩
 go_wp2_with fail
 refine (number_any r1 hn).mono ?_
 rintro e u2 ⟨rfl,r2,s2⟩
 go_wp2_with fail
 by_cases hl:l=src.size
 ·have he:((l:Int) == (src.size:Int))=true:=by simp [hl]
  have HL:=hid hl
  clear hl hd
  refine (ended_r r2 he).mono ?_
  rintro e u3 ⟨rfl,r3,s3⟩
  go_wp2_with fail
  go_ret
  exact ⟨rfl,r3,s1.trans (s2.trans s3)⟩
 ·have hd2:dig src l=true:=hd.resolve_left hl
  have he:((l:Int) == (src.size:Int))=false:=by simp;omega
  clear hd
  refine (ended_r r2 he).mono ?_
  rintro e u3 ⟨rfl,r3,s3⟩
  go_wp2_with fail
  refine (digit_r r3 hd2).mono ?_
  rintro e u4 ⟨rfl,r4,s4⟩
  go_wp2_with fail
  go_ret
  exact ⟨rfl,r4,s1.trans (s2.trans (s3.trans s4))⟩
theorem bndF_less {k1 l least m:Nat} (hn:NumOk src k k1 least) (h44:saw src k1 44=true) (h125:saw src (k1+1) 125=false) (hu:NumOk src (k1+1) l m) (hlt:m < least) (hd:l=src.size∨dig src l=true):BndF src k g l:=by
 intro w b hr
 have h5:saw src l 125=false:=by
  rcases hd with e | e
  ·exact saw_end e
  ·obtain ⟨hl,q1,q2⟩:=dig_lt e
   unfold saw
   rw [dif_pos hl,beq_eq_false_iff_ne]
   omega
 go_enter Tryz.func276,Tryz.ntmps276
 go_wp2_with fail
 refine (number_any hr hn).mono ?_
 rintro e u1 ⟨rfl,r1,s1⟩
 go_wp2_with fail
 refine (take_yes 44 r1 h44).mono ?_
 rintro e u2 ⟨rfl,r2,s2⟩
 go_wp2_with fail
 refine (upper_less r2 h125 hu hlt hd).mono ?_
 rintro e u3 ⟨rfl,r3,s3⟩
 go_wp2_with fail
 refine (expect_no 125 r3 h5).mono ?_
 rintro e u4 ⟨rfl,s4⟩
 go_wp2_with fail
 exact ⟨rfl,rfl,s1.trans (s2.trans (s3.trans s4))⟩
theorem bnd_g:match bndP src k with
  | .ok (l,a,b)=>BoundsOk src k l a b∧okB a b∧k < l∧l≤src.size
  | .error pl=>∀ g,BndF src k g pl:=by
 have h1:=num_g (src:=src) (k:=k)
 unfold bndP
 cases hn:numP src k with
 | error pl=>rw [hn] at h1;exact fun g=>bndF_num (h1 g)
 | ok p=>
  obtain ⟨l,a⟩:=p
  rw [hn] at h1
  obtain ⟨n1,a20,hkl,hls⟩:=h1
  dsimp only
  cases h44:saw src l 44
  ·rw [if_neg (by simp)]
   cases h125:saw src l 125
   ·rw [if_neg (by simp)]
    exact fun g=>bndF_shut n1 h44 h125
   ·rw [if_pos rfl]
    have:=saw_lt h125
    exact ⟨⟨l,n1,.inl ⟨h44,rfl,h125,rfl⟩⟩,⟨Nat.le_refl _,a20⟩,by omega,by omega⟩
  ·rw [if_pos rfl]
   have hl4:=saw_lt h44
   unfold upP
   cases h125:saw src (l+1) 125
   ·rw [if_neg (by simp)]
    have h2:=num_g (src:=src) (k:=l+1)
    cases hn2:numP src (l+1) with
    | error pl=>rw [hn2] at h2;exact fun g=>bndF_up n1 h44 (upF_num h125 (h2 g))
    | ok p=>
     obtain ⟨l2,v⟩:=p
     rw [hn2] at h2
     obtain ⟨n2,v20,hkl2,hls2⟩:=h2
     dsimp only
     by_cases hv:v < a
     ·by_cases hx:l2 < src.size∧dig src l2=false
      ·rw [if_pos ⟨hv,hx⟩]
       exact fun g=>bndF_up n1 h44 (upF_less h125 n2 hv hx.1 hx.2 (by omega))
      ·rw [if_neg (fun q=>hx q.2)]
       have hd:l2=src.size∨dig src l2=true:=by
        by_cases e:l2=src.size
        ·exact .inl e
        ·right
         cases hh:dig src l2
         ·exact absurd ⟨by omega,hh⟩ hx
         ·rfl
       have h5:saw src l2 125=false:=by
        rcases hd with e | e
        ·exact saw_end e
        ·obtain ⟨hl,q1,q2⟩:=dig_lt e
         unfold saw
         rw [dif_pos hl,beq_eq_false_iff_ne]
         omega
       dsimp only
       rw [h5,if_neg (by simp)]
       exact fun g=>bndF_less n1 h44 h125 n2 hv hd
     ·rw [if_neg (fun q=>hv q.1)]
      dsimp only
      have hu:UpOk src (l+1) l2 a (some v):=⟨h125,n2,by omega⟩
      cases h5:saw src l2 125
      ·rw [if_neg (by simp)]
       exact fun g=>bndF_shut2 n1 h44 hu h5
      ·rw [if_pos rfl]
       have:=saw_lt h5
       exact ⟨⟨l,n1,.inr ⟨h44,l2,hu,h5,rfl⟩⟩,⟨by omega,v20⟩,by omega,by omega⟩
   ·rw [if_pos rfl]
    dsimp only
    rw [h125,if_pos rfl]
    have:=saw_lt h125
    exact ⟨⟨l,n1,.inr ⟨h44,l+1,⟨h125,rfl⟩,h125,rfl⟩⟩,a20,by omega,by omega⟩
theorem repN_star (h1:saw src k 42=true):RepN src k (k+1) g (fun p=>piRep p 0 none):=by
 intro w b lo hi i nd hbl hhw hr
 have HI:=hid nd
 clear nd
 show Calls Tryz.prog 264 #[.pointer (some ⟨b,0,none⟩),.iface i.tv i.xv] w _
 go_enter Tryz.func264,Tryz.ntmps264
 go_wp2_with fail
 refine (take_yes 42 hr h1).mono ?_
 rintro e w1 ⟨rfl,r1,k1⟩
 go_wp2_with fail
 go_ret
 exact ⟨repIt i 0 none,rfl,rfl,(nd_rep HI.out (show okB 0 none by show (0:Nat)≤20;omega)).kept hbl hhw k1,r1,k1⟩
theorem repN_opt (h1:saw src k 42=false) (h2:saw src k 43=false) (h3:saw src k 63=true):RepN src k (k+1) g (fun p=>piRep p 0 (some 1)):=by
 intro w b lo hi i nd hbl hhw hr
 have HI:=hid nd
 clear nd
 show Calls Tryz.prog 264 #[.pointer (some ⟨b,0,none⟩),.iface i.tv i.xv] w _
 go_enter Tryz.func264,Tryz.ntmps264
 go_wp2_with fail
 refine (take_no 42 hr h1).mono ?_
 rintro e w1 ⟨rfl,r1,k1⟩
 go_wp2_with fail
 refine (take_no 43 r1 h2).mono ?_
 rintro e w2 ⟨rfl,r2,k2⟩
 go_wp2_with fail
 refine (take_yes 63 r2 h3).mono ?_
 rintro e w3 ⟨rfl,r3,k3⟩
 have K:=k1.trans (k2.trans k3)
 go_wp2_with fail
 go_ret
 exact ⟨repIt i 0 (some 1),rfl,rfl,(nd_rep HI.out (show okB 0 (some 1) from ⟨by omega,by omega⟩)).kept hbl hhw K,r3,K⟩
def timesPi (p:Pi):Option (Nat×Option Nat)→Pi
 | none=>p
 | some (a,b)=>piRep p a b
def okR:Option (Nat×Option Nat)→Prop
 | none=>True
 | some (a,b)=>okB a b
theorem rep_g (hle:k≤src.size):match repP src k with
  | .ok (l,r)=>okR r∧k≤l∧l≤src.size∧∀ g,RepN src k l g (fun p=>timesPi p r)
  | .error pl=>∀ g,RepF src k g pl:=by
 unfold repP
 cases h1:saw src k 42
 case true=>
  rw [if_pos rfl]
  have:=saw_lt h1
  exact ⟨show (0:Nat)≤20 by omega,by omega,by omega,fun g=>repN_star h1⟩
 rw [if_neg (by simp)]
 cases h2:saw src k 43
 case true=>
  rw [if_pos rfl]
  have:=saw_lt h2
  exact ⟨show (1:Nat)≤20 by omega,by omega,by omega,fun g=>repN_plus h1 h2⟩
 rw [if_neg (by simp)]
 cases h3:saw src k 63
 case true=>
  rw [if_pos rfl]
  have:=saw_lt h3
  exact ⟨⟨by omega,by omega⟩,by omega,by omega,fun g=>repN_opt h1 h2 h3⟩
 rw [if_neg (by simp)]
 cases h4:saw src k 123
 case false=>
  rw [if_neg (by simp)]
  exact ⟨trivial,by omega,hle,fun g=>repN_no h1 h2 h3 h4⟩
 rw [if_pos rfl]
 have hb:=bnd_g (src:=src) (k:=k+1)
 cases hn:bndP src (k+1) with
 | error pl=>rw [hn] at hb;exact fun g=>repF_brace h1 h2 h3 h4 (hb g)
 | ok p=>
  obtain ⟨l,a,b⟩:=p
  rw [hn] at hb
  exact ⟨hb.2.1,by have:=hb.2.2.1;omega,hb.2.2.2,fun g=>repN_brace h1 h2 h3 h4 hb.1 hb.2.1⟩
theorem Pn.pi_times (x:Pn) (r:Option (Nat×Option Nat)):(x.times r).pi=timesPi x.pi r:=by
 cases r with
 | none=>rfl
 | some p=>rfl
end
def LenOk (p:Pi):Prop:=p.sz≤300→p.len≤2 * p.sz
theorem lenOk_row {l:List Pi} (h:∀ p∈l,LenOk p):(l.map Pi.sz).sum≤300→(l.map Pi.len).sum≤2 * (l.map Pi.sz).sum:=by
 induction l with
 | nil=>intro _;simp
 | cons p l ih=>
  intro hs
  simp only [List.map_cons,List.sum_cons] at hs ⊢
  have h1:=h p (by simp) (by omega)
  have h2:=ih (fun q hq=>h q (by simp [hq])) (by omega)
  omega
theorem piRow_sz (l:List Pi):(piRow l).sz=min (l.map Pi.sz).sum 301:=by simp [piRow,rowIt,It.pi,szL,List.map_map,Function.comp_def,Pi.it]
theorem piRow_len (l:List Pi):(piRow l).len=(l.map Pi.len).sum:=by simp [piRow,rowIt,It.pi,lenL,List.map_map,Function.comp_def,Pi.it]
theorem piBr_sz (l:List Pi):(piBranches l).sz=min ((l.map Pi.sz).sum+(l.length - 1)) 301:=by simp [piBranches,branchesIt,It.pi,szL,List.map_map,Function.comp_def,Pi.it]
theorem piBr_len (l:List Pi):(piBranches l).len=(l.map Pi.len).sum+(l.length - 1):=by simp [piBranches,branchesIt,It.pi,lenL,List.map_map,Function.comp_def,Pi.it]
theorem ddL_max {n:Nat}:∀ {l:List It},(∀ i∈l,i.dd≤n)→ddL l≤n
 | [],_=>by simp [ddL]
 | i::l,h=>by
  have h1:=h i (by simp)
  have h2:=ddL_max (l:=l) (fun j hj=>h j (by simp [hj]))
  simp only [ddL]
  omega
theorem piRow_dd {l:List Pi} {n:Nat} (h:∀ p∈l,p.dd≤n):(piRow l).dd≤n:=ddL_max (fun i hi=>by
 obtain ⟨p,hp,rfl⟩:=List.mem_map.1 hi
 exact h p hp)
theorem piBr_dd {l:List Pi} {n:Nat} (h:∀ p∈l,p.dd≤n):(piBranches l).dd≤n:=ddL_max (fun i hi=>by
 obtain ⟨p,hp,rfl⟩:=List.mem_map.1 hi
 exact h p hp)
theorem lenOk_piRow {l:List Pi} (h:∀ p∈l,LenOk p):LenOk (piRow l):=by
 intro hs
 rw [piRow_sz] at hs ⊢
 rw [piRow_len]
 have:=lenOk_row h (by omega)
 omega
theorem lenOk_piBr {l:List Pi} (h:∀ p∈l,LenOk p):LenOk (piBranches l):=by
 intro hs
 rw [piBr_sz] at hs ⊢
 rw [piBr_len]
 have:=lenOk_row h (by omega)
 omega
theorem lenOk_group {g:Nat} {p:Pi} (h:LenOk p):LenOk (piGroup g p):=by
 intro hs
 have e1:(piGroup g p).sz=min (p.sz+2) 301:=rfl
 have e2:(piGroup g p).len=p.len+2:=rfl
 rw [e1] at hs ⊢
 rw [e2]
 have:=h (by omega)
 omega
theorem lenOk_rep {p:Pi} {a:Nat} {b:Option Nat} (h:LenOk p) (hok:okB a b) (h301:p.sz≤301):LenOk (piRep p a b):=by
 intro hs
 cases b with
 | none=>
  have e1:(piRep p a none).sz=min ((a+1) * p.sz+1) 301:=rfl
  have e2:(piRep p a none).len=p.len+2+a * p.len:=rfl
  rw [e1] at hs ⊢
  rw [e2]
  have h3:p.sz≤(a+1) * p.sz:=Nat.le_mul_of_pos_left _ (by omega)
  have h4:=h (by omega)
  have h5:a * p.len≤a * (2 * p.sz):=Nat.mul_le_mul_left _ h4
  have h6:(a+1) * p.sz=a * p.sz+p.sz:=by rw [Nat.add_mul,Nat.one_mul]
  have h7:a * (2 * p.sz)=2 * (a * p.sz):=by rw [Nat.mul_left_comm]
  omega
 | some m=>
  have e1:(piRep p a (some m)).sz=min (m * p.sz+(m - a)) 301:=rfl
  have e2:(piRep p a (some m)).len=(m - a) * (p.len+1)+a * p.len:=rfl
  rw [e1] at hs ⊢
  rw [e2]
  obtain ⟨ham,_⟩:=hok
  have e3:(m - a) * (p.len+1)+a * p.len=m * p.len+(m - a):=by
   obtain ⟨d,rfl⟩:=Nat.exists_eq_add_of_le ham
   rw [Nat.add_sub_cancel_left,Nat.mul_add,Nat.add_mul]
   omega
  rw [e3]
  by_cases hm:m=0
  ·subst hm;omega
  ·have h3:p.sz≤m * p.sz:=Nat.le_mul_of_pos_left _ (by omega)
   have h4:=h (by omega)
   have h5:m * p.len≤m * (2 * p.sz):=Nat.mul_le_mul_left _ h4
   have h7:m * (2 * p.sz)=2 * (m * p.sz):=by rw [Nat.mul_left_comm]
   omega
section
variable {w:World} {b k g pl:Nat} {src:ByteArray}
theorem atomN_dot (h40:saw src k 40=false) (h46:saw src k 46=true):AtomN src k (k+1) g g (piOne fun x=>!noBytes x):=by
 intro w b hb0 hr hw
 have hwd:∀ i,(0:Int)=(wd noBytes i:Int):=fun i=>by rw [wd_none];rfl
 have C:=hid (others_any noBytes)
 go_enter Tryz.func265,Tryz.ntmps265
 go_wp2_with fail
 refine (sees_r 40 hr h40).mono ?_
 rintro e w1 ⟨rfl,r1,k1⟩
 go_wp2_with fail
 refine (take_yes 46 r1 h46).mono ?_
 rintro e w2 ⟨rfl,r2,k2⟩
 go_wp2_with fail
 have C2:=C.out
 unfold setV at C2
 simp only [wd_none] at C2
 refine (C2 _).mono ?_
 rintro e w3 ⟨rfl,k3⟩
 go_wp2_with fail
 go_ret
 exact ⟨oneIt (fun x=>!noBytes x),rfl,rfl,nd_one _ _ _ _,r2.keep k3 (by simp),k1.trans (k2.trans (k3.mono (by simp)))⟩
theorem atomN_class {l:Nat} {m:Nat→Bool} (h40:saw src k 40=false) (h46:saw src k 46=false) (h91:saw src k 91=true) (h:∀ b,b≠4→ClassOk b src (k+1) l g m):AtomN src k l g g (piOne m):=by
 intro w b hb0 hr hw
 refine (atom_class hr hw hb0 h40 h46 h91 (h b hb0)).mono ?_
 rintro e w1 ⟨rfl,r1,k1⟩
 exact ⟨oneIt m,rfl,rfl,nd_one _ _ _ _,r1,k1⟩
end
section
variable (src:ByteArray)
def AtomR (n k g:Nat):Prop:=match atomP src n k g with
 | .ok (l,g',x)=>AtomN src k l g g' x.pi∧k < l∧l≤src.size∧g≤g'∧g'≤9∧LenOk x.pi∧x.pi.sz≤301∧x.pi.dd+g≤g'
 | .error pl=>FailN 265 src k g pl
def PieceR (n k g:Nat):Prop:=match pieceP src n k g with
 | .ok (l,g',x)=>PieceN src k l g g' x.pi∧k < l∧l≤src.size∧g≤g'∧g'≤9∧LenOk x.pi∧x.pi.sz≤301∧x.pi.dd+g≤g'+1
 | .error pl=>FailN 242 src k g pl
def RowR (n k g:Nat):Prop:=match rowP src n k g with
 | .ok (l,g',xs)=>RowN src l g' k g (piL xs)∧k≤l∧l≤src.size∧g≤g'∧g'≤9∧xs.length+k≤l∧∀ p∈piL xs,LenOk p∧p.dd+g≤g'+1
 | .error pl=>∃ ps,RowF src pl k g ps∧ps.length+k≤src.size
def MoreR (n k g:Nat):Prop:=match moreP src n k g with
 | .ok (l,g',ys)=>BrsN src l g' k g (piL ys)∧k≤l∧l≤src.size∧g≤g'∧g'≤9∧ys.length+k≤l∧∀ p∈piL ys,LenOk p∧p.dd+g≤g'+1
 | .error pl=>∃ ps,BrsF src pl k g ps∧ps.length+k≤src.size
def BrsR (n k g:Nat):Prop:=match brsP src n k g with
 | .ok (l,g',x)=>BranchesN src k l g g' x.pi∧k≤l∧l≤src.size∧g≤g'∧g'≤9∧LenOk x.pi∧x.pi.sz≤301∧x.pi.dd+g≤g'+1
 | .error pl=>FailN 162 src k g pl
end
section
variable {src:ByteArray} {n k g:Nat}
theorem atom_all (hB:∀ k g,k≤src.size→g≤9→src.size≤k+100→4 * (src.size - k)+4≤n→BrsR src n k g) (hk:k < src.size) (hg:g≤9) (h100:src.size≤k+100) (hn:4 * (src.size - k)≤n):AtomR src (n+1) k g:=by
 unfold AtomR atomP
 cases h40:saw src k 40
 case true=>
  rw [if_pos rfl]
  by_cases h9:g=9
  ·rw [if_pos h9]
   subst h9
   exact atomF_group h40 groupF_nine
  rw [if_neg h9]
  have hb:=hB (k+1) (g+1) (by omega) (by omega) (by omega) (by omega)
  unfold BrsR at hb
  cases hr:brsP src n (k+1) (g+1) with
  | error pl=>
   rw [hr] at hb
   exact atomF_group h40 (groupF_in (by omega) h40 hb)
  | ok p=>
   obtain ⟨l,g',x⟩:=p
   rw [hr] at hb
   obtain ⟨b1,b2,b3,b4,b5,b6,b7,b8⟩:=hb
   dsimp only
   cases h41:saw src l 41
   ·rw [if_neg (by simp)]
    exact atomF_group h40 (groupF_open (by omega) h40 b1 h41)
   ·rw [if_pos rfl]
    have hl:=saw_lt h41
    refine ⟨atomN_group (by omega) h40 b1 h41,by omega,by omega,by omega,b5,lenOk_group b6,?_,?_⟩
    ·show min (x.pi.sz+2) 301≤301
     omega
    ·show x.pi.dd+g≤g'
     omega
 rw [if_neg (by simp)]
 cases h46:saw src k 46
 case true=>
  rw [if_pos rfl]
  exact ⟨atomN_dot h40 h46,by omega,by omega,by omega,hg,fun _=>(by show 1≤2 * 1;omega),(by show 1≤301;omega),by show 0+g≤g;omega⟩
 rw [if_neg (by simp)]
 cases h91:saw src k 91
 case true=>
  rw [if_pos rfl]
  have hc:=class_g (src:=src) (k:=k+1) (n:=src.size) (by omega) (by omega)
  cases hr:classP src src.size (k+1) with
  | error pl=>
   rw [hr] at hc
   exact atomF_class h40 h46 h91 (hc g)
  | ok p=>
   obtain ⟨l,m⟩:=p
   rw [hr] at hc
   exact ⟨atomN_class h40 h46 h91 (fun b hb=>hc.2.2 b g hb),by have:=hc.1;omega,hc.2.1,Nat.le_refl _,hg,fun _=>(by show 1≤2 * 1;omega),(by show 1≤301;omega),by show 0+g≤g;omega⟩
 rw [if_neg (by simp)]
 have hb:=byt_g (src:=src) (barred:=special) (behind:=escaped) (k:=k) (by omega)
 cases hr:bytP src special escaped k with
 | error pl=>
  rw [hr] at hb
  exact atomF_byte h40 h46 h91 (hb g)
 | ok p=>
  obtain ⟨l,x⟩:=p
  rw [hr] at hb
  exact ⟨atomN_byte hb.1 h40 h46 h91 (fun b=>hb.2.2.2 b g),hb.2.1,hb.2.2.1,Nat.le_refl _,hg,fun _=>(by show 1≤2 * 1;omega),(by show 1≤301;omega),by show 0+g≤g;omega⟩
theorem piece_all (hA:AtomR src n k g) (hk:k < src.size) (hg:g≤9):PieceR src (n+1) k g:=by
 unfold PieceR pieceP
 cases h94:saw src k 94
 case true=>
  rw [if_pos rfl]
  exact ⟨pieceN_begin h94,by omega,by omega,by omega,hg,fun _=>(by show 1≤2 * 1;omega),(by show 1≤301;omega),by show 0+g≤g+1;omega⟩
 rw [if_neg (by simp)]
 cases h36:saw src k 36
 case true=>
  rw [if_pos rfl]
  exact ⟨pieceN_end h94 h36,by omega,by omega,by omega,hg,fun _=>(by show 1≤2 * 1;omega),(by show 1≤301;omega),by show 0+g≤g+1;omega⟩
 rw [if_neg (by simp)]
 unfold AtomR at hA
 cases hr:atomP src n k g with
 | error pl=>
  rw [hr] at hA
  exact piece_fail h94 h36 hA
 | ok p=>
  obtain ⟨l,g',x⟩:=p
  rw [hr] at hA
  obtain ⟨a1,a2,a3,a4,a5,a6,a7,a8⟩:=hA
  dsimp only
  have hp:=rep_g (src:=src) (k:=l) a3
  cases hq:repP src l with
  | error pl=>
   rw [hq] at hp
   exact piece_rep h94 h36 a1 (hp g')
  | ok p=>
   obtain ⟨l2,r⟩:=p
   rw [hq] at hp
   obtain ⟨q1,q2,q3,q4⟩:=hp
   dsimp only
   rw [Pn.pi_times]
   refine ⟨pieceN_atom h94 h36 a1 (q4 g'),by omega,q3,a4,a5,?_⟩
   cases r with
   | none=>exact ⟨a6,a7,by show x.pi.dd+g≤g'+1;omega⟩
   | some p=>
    obtain ⟨a,b⟩:=p
    refine ⟨lenOk_rep a6 q1 a7,?_,?_⟩
    ·cases b with
     | none=>show min ((a+1) * x.pi.sz+1) 301≤301;omega
     | some m=>show min (m * x.pi.sz+(m - a)) 301≤301;omega
    ·cases b with
     | none=>show x.pi.dd+1+g≤g'+1;omega
     | some m=>
      show (if m=0 then 0 else x.pi.dd)+g≤g'+1
      split <;> omega
theorem row_all (hP:∀ k g,k < src.size→g≤9→src.size≤k+100→4 * (src.size - k)+2≤n→PieceR src n k g) (hR:∀ k g,k≤src.size→g≤9→src.size≤k+100→4 * (src.size - k)+3≤n→RowR src n k g) (hk:k≤src.size) (hg:g≤9) (h100:src.size≤k+100) (hn:4 * (src.size - k)+2≤n):RowR src (n+1) k g:=by
 unfold RowR rowP
 by_cases hc:k < src.size∧saw src k 124=false∧saw src k 41=false
 ·rw [if_pos hc]
  obtain ⟨c1,c2,c3⟩:=hc
  have hp:=hP k g c1 hg h100 hn
  unfold PieceR at hp
  cases hr:pieceP src n k g with
  | error pl=>
   rw [hr] at hp
   exact ⟨[],⟨c1,c2,c3,hp⟩,by simp;omega⟩
  | ok p=>
   obtain ⟨l,g',x⟩:=p
   rw [hr] at hp
   obtain ⟨a1,a2,a3,a4,a5,a6,a7,a8⟩:=hp
   dsimp only
   have hrw:=hR l g' a3 a5 (by omega) (by omega)
   unfold RowR at hrw
   cases hq:rowP src n l g' with
   | error pl=>
    rw [hq] at hrw
    obtain ⟨ps,r1,r2⟩:=hrw
    exact ⟨x.pi::ps,⟨c1,c2,c3,l,g',a2,a1,r1⟩,by simp;omega⟩
   | ok p=>
    obtain ⟨l2,g2,xs⟩:=p
    rw [hq] at hrw
    obtain ⟨r1,r2,r3,r4,r5,r6,r7⟩:=hrw
    refine ⟨⟨c1,c2,c3,l,g',a2,a1,r1⟩,by omega,r3,by omega,r5,by simp;omega,fun p hp=>?_⟩
    rcases List.mem_cons.1 (show p∈x.pi::piL xs from hp) with e | e
    ·subst e;exact ⟨a6,by omega⟩
    ·have:=r7 p e;exact ⟨this.1,by omega⟩
 ·rw [if_neg hc]
  refine ⟨⟨rfl,rfl,?_⟩,Nat.le_refl _,hk,Nat.le_refl _,hg,by simp,fun p hp=>by cases hp⟩
  by_cases h1:k=src.size
  ·exact .inl h1
  ·have h2:k < src.size:=by omega
   cases h3:saw src k 124
   ·cases h4:saw src k 41
    ·exact absurd ⟨h2,h3,h4⟩ hc
    ·exact .inr (.inr ⟨h2,rfl,rfl⟩)
   ·exact .inr (.inl ⟨h2,rfl⟩)
theorem more_all (hR:∀ k g,k≤src.size→g≤9→src.size≤k+100→4 * (src.size - k)+3≤n→RowR src n k g) (hM:∀ k g,k≤src.size→g≤9→src.size≤k+100→4 * (src.size - k)+3≤n→MoreR src n k g) (hk:k≤src.size) (hg:g≤9) (h100:src.size≤k+100) (hn:4 * (src.size - k)+2≤n):MoreR src (n+1) k g:=by
 unfold MoreR moreP
 cases h124:saw src k 124
 ·rw [if_neg (by simp)]
  exact ⟨⟨rfl,rfl,h124⟩,Nat.le_refl _,hk,Nat.le_refl _,hg,by simp,fun p hp=>by cases hp⟩
 ·rw [if_pos rfl]
  have hlt:=saw_lt h124
  have hrw:=hR (k+1) g (by omega) hg (by omega) (by omega)
  unfold RowR at hrw
  cases hr:rowP src n (k+1) g with
  | error pl=>
   rw [hr] at hrw
   obtain ⟨ps,r1,r2⟩:=hrw
   exact ⟨[],⟨h124,branchF_row r1 (by omega)⟩,by simp;omega⟩
  | ok p=>
   obtain ⟨l,g',xs⟩:=p
   rw [hr] at hrw
   obtain ⟨r1,r2,r3,r4,r5,r6,r7⟩:=hrw
   have hbr:BranchN src (k+1) l g g' (piRow (piL xs)):=branchN_row r1 (by rw [piL_len];omega)
   dsimp only
   have hm:=hM l g' r3 r5 (by omega) (by omega)
   unfold MoreR at hm
   cases hq:moreP src n l g' with
   | error pl=>
    rw [hq] at hm
    obtain ⟨ps,m1,m2⟩:=hm
    exact ⟨piRow (piL xs)::ps,⟨h124,l,g',by omega,hbr,m1⟩,by simp;omega⟩
   | ok p=>
    obtain ⟨l2,g2,ys⟩:=p
    rw [hq] at hm
    obtain ⟨m1,m2,m3,m4,m5,m6,m7⟩:=hm
    refine ⟨⟨h124,l,g',by omega,hbr,m1⟩,by omega,m3,by omega,m5,by simp;omega,fun p hp=>?_⟩
    rcases List.mem_cons.1 (show p∈piRow (piL xs)::piL ys from hp) with e | e
    ·subst e
     refine ⟨lenOk_piRow fun q hq=>(r7 q hq).1,?_⟩
     have:=piRow_dd (l:=piL xs) (n:=g'+1 - g) (fun q hq=>by have:=(r7 q hq).2;omega)
     omega
    ·have:=m7 p e;exact ⟨this.1,by omega⟩
theorem brs_all (hR:∀ k g,k≤src.size→g≤9→src.size≤k+100→4 * (src.size - k)+3≤n→RowR src n k g) (hM:∀ k g,k≤src.size→g≤9→src.size≤k+100→4 * (src.size - k)+3≤n→MoreR src n k g) (hk:k≤src.size) (hg:g≤9) (h100:src.size≤k+100) (hn:4 * (src.size - k)+3≤n):BrsR src (n+1) k g:=by
 unfold BrsR brsP
 have hrw:=hR k g hk hg h100 hn
 unfold RowR at hrw
 cases hr:rowP src n k g with
 | error pl=>
  rw [hr] at hrw
  obtain ⟨ps,r1,r2⟩:=hrw
  exact branchesF_first (branchF_row r1 (by omega))
 | ok p=>
  obtain ⟨l,g',xs⟩:=p
  rw [hr] at hrw
  obtain ⟨r1,r2,r3,r4,r5,r6,r7⟩:=hrw
  have hbr:BranchN src k l g g' (piRow (piL xs)):=branchN_row r1 (by rw [piL_len];omega)
  dsimp only
  have hm:=hM l g' r3 r5 (by omega) (by omega)
  unfold MoreR at hm
  cases hq:moreP src n l g' with
  | error pl=>
   rw [hq] at hm
   obtain ⟨ps,m1,m2⟩:=hm
   exact branchesF_all hbr m1 (by omega)
  | ok p=>
   obtain ⟨l2,g2,ys⟩:=p
   rw [hq] at hm
   obtain ⟨m1,m2,m3,m4,m5,m6,m7⟩:=hm
   have hall:∀ p∈piRow (piL xs)::piL ys,LenOk p∧p.dd≤g2+1 - g:=fun p hp=>by
    rcases List.mem_cons.1 hp with e | e
    ·subst e
     refine ⟨lenOk_piRow fun q hq=>(r7 q hq).1,?_⟩
     have:=piRow_dd (l:=piL xs) (n:=g'+1 - g) (fun q hq=>by have:=(r7 q hq).2;omega)
     omega
    ·have:=m7 p e;exact ⟨this.1,by omega⟩
   refine ⟨branchesN_all hbr m1 (by rw [piL_len];omega),by omega,m3,by omega,m5,lenOk_piBr fun p hp=>(hall p hp).1,?_,?_⟩
   ·show (piBranches (piRow (piL xs)::piL ys)).sz≤301
    rw [piBr_sz];omega
   ·have:=piBr_dd fun p hp=>(hall p hp).2
    show (piBranches (piRow (piL xs)::piL ys)).dd+g≤g2+1
    omega
theorem read_all (src:ByteArray):∀ n,(∀ k g,k < src.size→g≤9→src.size≤k+100→4 * (src.size - k)+1≤n→AtomR src n k g) ∧
  (∀ k g,k < src.size→g≤9→src.size≤k+100→4 * (src.size - k)+2≤n→PieceR src n k g) ∧
  (∀ k g,k≤src.size→g≤9→src.size≤k+100→4 * (src.size - k)+3≤n→RowR src n k g) ∧
  (∀ k g,k≤src.size→g≤9→src.size≤k+100→4 * (src.size - k)+3≤n→MoreR src n k g) ∧
  (∀ k g,k≤src.size→g≤9→src.size≤k+100→4 * (src.size - k)+4≤n→BrsR src n k g)
 | 0=>⟨fun k g _ _ _ h=>by omega,fun k g _ _ _ h=>by omega,fun k g _ _ _ h=>by omega,fun k g _ _ _ h=>by omega,fun k g _ _ _ h=>by omega⟩
 | n+1=>by
  obtain ⟨hA,hP,hR,hM,hB⟩:=read_all src n
  refine ⟨fun k g h1 h2 h3 h4=>atom_all hB h1 h2 h3 (by omega),fun k g h1 h2 h3 h4=>piece_all (hA k g h1 h2 h3 (by omega)) h1 h2,fun k g h1 h2 h3 h4=>row_all hP hR h1 h2 h3 (by omega),fun k g h1 h2 h3 h4=>more_all hR hM h1 h2 h3 (by omega),fun k g h1 h2 h3 h4=>brs_all hR hM h1 h2 h3 (by omega)⟩
end
