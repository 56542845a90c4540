import Derived.Test.YtnfglkdkmcocnaaGreatDoorR12
import Derived.Deep.CutRange
set_option maxRecDepth 100000
set_option maxHeartbeats 16000000
set_option linter.all false
namespace Go.Proofs.YtnfglkdkmcocnaaGreatDoor
open Go.RowKit
abbrev Zt:=Nat→Int
def pick:Option Zt→Zt→Option Zt
 | none,c=>some c
 | some b,c=>if c 0 < b 0∨(c 0=b 0∧b 1 < c 1) then some c else some b
def Cvd (a:Option Zt) (b e:Int):Prop:=∃ y,a=some y∧(y 0 < b∨(y 0=b∧e≤y 1))
theorem Cvd.mono {a:Option Zt} {b b' e:Int} (h:Cvd a b e) (hb:b≤b'):Cvd a b' e:=by
 obtain ⟨y,h1,h2⟩:=h
 exact ⟨y,h1,by omega⟩
theorem Cvd.on {a:Option Zt} {b e:Int} (h:Cvd a b e) (c:Zt):Cvd (pick a c) b e:=by
 obtain ⟨y,rfl,h2⟩:=h
 unfold pick
 dsimp only
 split
 ·exact ⟨c,rfl,by omega⟩
 ·exact ⟨y,rfl,h2⟩
theorem Cvd.fold {b e:Int}:∀ (l:List Zt) {a:Option Zt},Cvd a b e→Cvd (l.foldl pick a) b e
 | [],_,h=>h
 | c::l,_,h=>Cvd.fold l (h.on c)
theorem cv_pick (a:Option Zt) (c:Zt):Cvd (pick a c) (c 0) (c 1):=by
 cases a with
 | none=>exact ⟨c,rfl,by omega⟩
 | some b=>
  unfold pick
  dsimp only
  split
  ·exact ⟨c,rfl,by omega⟩
  ·exact ⟨b,rfl,by omega⟩
theorem cv_fold {z:Zt}:∀ (l:List Zt) (a:Option Zt),z∈l→Cvd (l.foldl pick a) (z 0) (z 1)
 | c::l,a,h=>by
  rcases List.mem_cons.1 h with rfl | h
  ·exact (cv_pick a z).fold l
  ·exact cv_fold l _ h
theorem pick_cv {a:Option Zt} {c:Zt} (h:Cvd a (c 0) (c 1)):pick a c=a:=by
 obtain ⟨y,rfl,h2⟩:=h
 unfold pick
 dsimp only
 rw [if_neg (by omega)]
theorem fold_cv:∀ (l:List Zt) {a:Option Zt},(∀ z∈l,Cvd a (z 0) (z 1))→l.foldl pick a=a
 | [],_,_=>rfl
 | c::l,a,h=>by
  rw [List.foldl_cons,pick_cv (h c (by simp))]
  exact fold_cv l fun z hz=>h z (by simp [hz])
theorem pick_comm (o:Option Zt) {a z:Zt} (h:a 0≠z 0∨a 1≠z 1):pick (pick o a) z=pick (pick o z) a:=by
 cases o with
 | none=>
  unfold pick;dsimp only
  split <;> split <;> first | rfl | omega
 | some b=>grind [pick]
theorem fold_comm {z:Zt}:∀ (l:List Zt) (o:Option Zt),(∀ a∈l,a 0≠z 0∨a 1≠z 1)→l.foldl pick (pick o z)=pick (l.foldl pick o) z
 | [],_,_=>rfl
 | a::l,o,h=>by
  rw [List.foldl_cons,←pick_comm o (h a (by simp))]
  exact fold_comm l _ fun b hb=>h b (by simp [hb])
def epsJ (cd:Nat→In) (text:ByteArray) (pl pc tk:Nat):List (Nat×Nat):=if (cd pc).kind=7 then [((cd pc).nx,tk)] else epsC cd text pl pc tk
theorem epsJ_eq {cd:Nat→In} {text:ByteArray} {pl pc tk:Nat} (h:(cd pc).kind≤6):epsJ cd text pl pc tk=epsC cd text pl pc tk:=by unfold epsJ;rw [if_neg (by omega)]
def compF (cd:Nat→In) (text:ByteArray):Nat→Nat→Thr→Option (List Zt)
 | 0,_,_=>none
 | h+1,pl,t=>
  if (cd t.pc).kind=6 then (if t.tk=0 then some [nu t.x 1 pl] else none)
  else if (cd t.pc).kind=0 then (if takesB cd text pl t=true then compF cd text h (pl+1) (behind cd t) else some [])
  else if (cd t.pc).kind=5∧(cd t.pc).dp+1 < t.tk then none
  else match epsJ cd text pl t.pc t.tk with
   | []=>some []
   | [c]=>compF cd text h pl ⟨c.1,c.2,noteE cd pl t.pc t.x⟩
   | c::e::_=>match compF cd text h pl ⟨c.1,c.2,noteE cd pl t.pc t.x⟩,compF cd text h pl ⟨e.1,e.2,noteE cd pl t.pc t.x⟩ with
    | some a,some b=>some (a++b)
    | _,_=>none
section
variable {cd:Nat→In} {text:ByteArray} {n D bg:Nat}
theorem compF_mono:∀ (h pl:Nat) (t:Thr) (L:List Zt),compF cd text h pl t=some L→compF cd text (h+1) pl t=some L:=by
 intro h
 induction h with
 | zero=>intro pl t L e;cases e
 | succ h ih=>
  intro pl t L e
  rw [compF] at e ⊢
  split
  ·rw [if_pos (by assumption)] at e;exact e
  ·rw [if_neg (by assumption)] at e
   split
   ·rw [if_pos (by assumption)] at e
    split
    ·rw [if_pos (by assumption)] at e;exact ih _ _ _ e
    ·rw [if_neg (by assumption)] at e;exact e
   ·rw [if_neg (by assumption)] at e
    split
    ·rw [if_pos (by assumption)] at e;exact e
    ·rw [if_neg (by assumption)] at e
     grind
theorem compF_le {h h' pl:Nat} {t:Thr} {L:List Zt} (e:compF cd text h pl t=some L) (hh:h≤h'):compF cd text h' pl t=some L:=by
 induction h' with
 | zero=>rwa [show h=0 by omega] at e
 | succ k ih=>
  by_cases e1:h≤k
  ·exact compF_mono _ _ _ _ (ih e1)
  ·rwa [show h=k+1 by omega] at e
theorem compF_det {h h' pl:Nat} {t:Thr} {L M:List Zt} (e:compF cd text h pl t=some L) (e':compF cd text h' pl t=some M):L=M:=by
 have a:=compF_le e (Nat.le_max_left h h')
 have b:=compF_le e' (Nat.le_max_right h h')
 rw [a] at b
 exact Option.some.inj b
theorem compF_same:∀ (h pl:Nat) (t u:Thr) (L:List Zt),sameC t u→compF cd text h pl t=some L→∃ M,compF cd text h pl u=some M∧M.map (· 1)=L.map (· 1):=by
 intro h
 induction h with
 | zero=>intro pl t u L _ e;cases e
 | succ h ih=>
  intro pl t u L hs e
  obtain ⟨h1,h2⟩:=hs
  rw [compF] at e ⊢
  rw [h1,h2] at e
  split
  ·rw [if_pos (by assumption)] at e
   split
   ·rw [if_pos (by assumption)] at e
    cases e
    exact ⟨_,rfl,by simp [nu]⟩
   ·rw [if_neg (by assumption)] at e;cases e
  ·rw [if_neg (by assumption)] at e
   split
   ·rw [if_pos (by assumption),takes_same ⟨h1,h2⟩] at e
    split
    ·rw [if_pos (by assumption)] at e
     exact ih _ _ _ _ ⟨by simp [behind,h1],by simp [behind,h1]⟩ e
    ·rw [if_neg (by assumption)] at e
     cases e;exact ⟨_,rfl,rfl⟩
   ·rw [if_neg (by assumption)] at e
    split
    ·rw [if_pos (by assumption)] at e;cases e
    ·rw [if_neg (by assumption)] at e
     cases hE:epsJ cd text pl u.pc u.tk with
     | nil=>rw [hE] at e;cases e;exact ⟨_,rfl,rfl⟩
     | cons c l=>
      rw [hE] at e
      cases l with
      | nil=>exact ih pl ⟨c.1,c.2,noteE cd pl u.pc t.x⟩ ⟨c.1,c.2,noteE cd pl u.pc u.x⟩ L ⟨rfl,rfl⟩ e
      | cons f l=>
       dsimp only at e ⊢
       split at e
       ·rename_i a b ea eb
        obtain ⟨A,q1,q2⟩:=ih pl ⟨c.1,c.2,noteE cd pl u.pc t.x⟩ ⟨c.1,c.2,noteE cd pl u.pc u.x⟩ a ⟨rfl,rfl⟩ ea
        obtain ⟨B,q3,q4⟩:=ih pl ⟨f.1,f.2,noteE cd pl u.pc t.x⟩ ⟨f.1,f.2,noteE cd pl u.pc u.x⟩ b ⟨rfl,rfl⟩ eb
        cases e
        rw [q1,q3]
        exact ⟨_,rfl,by simp [q2,q4]⟩
       ·cases e
theorem compF_at (hs:∀ a,(cd a).kind=3→2≤(cd a).sl):∀ (h pl:Nat) (t:Thr) (L:List Zt),compF cd text h pl t=some L→∀ z∈L,z 0=t.x 0∧(pl:Int)≤z 1:=by
 intro h
 induction h with
 | zero=>intro pl t L e;cases e
 | succ h ih=>
  intro pl t L e z hz
  have hn:noteE cd pl t.pc t.x 0=t.x 0:=by
   unfold noteE
   split
   ·have:=hs t.pc (by assumption)
    unfold nu;rw [if_neg (by omega)]
   ·rfl
  rw [compF] at e
  split at e
  ·split at e
   ·cases e
    rw [List.mem_singleton.1 hz]
    simp [nu]
   ·cases e
  ·split at e
   ·split at e
    ·have:=ih _ _ _ e z hz
     exact ⟨this.1,by omega⟩
    ·cases e;cases hz
   ·split at e
    ·cases e
    ·split at e
     ·cases e;cases hz
     ·have:=ih _ _ _ e z hz
      exact ⟨this.1.trans hn,this.2⟩
     ·split at e
      ·rename_i a b ea eb
       cases e
       rcases List.mem_append.1 hz with q | q
       ·have:=ih _ _ _ ea z q
        exact ⟨this.1.trans hn,this.2⟩
       ·have:=ih _ _ _ eb z q
        exact ⟨this.1.trans hn,this.2⟩
      ·cases e
def Has (cd:Nat→In) (text:ByteArray) (pl:Nat) (t:Thr):Prop:=∃ h L,compF cd text h pl t=some L
open Classical in
noncomputable def cmp (cd:Nat→In) (text:ByteArray) (pl:Nat) (t:Thr):List Zt:=if h:Has cd text pl t then Classical.choose (Classical.choose_spec h) else []
theorem cmp_eq {h pl:Nat} {t:Thr} {L:List Zt} (e:compF cd text h pl t=some L):cmp cd text pl t=L:=by
 have H:Has cd text pl t:=⟨h,L,e⟩
 unfold cmp
 rw [dif_pos H]
 exact compF_det (Classical.choose_spec (Classical.choose_spec H)) e
theorem Has.cmp {pl:Nat} {t:Thr} (h:Has cd text pl t):∃ k,compF cd text k pl t=some (cmp cd text pl t):=by
 obtain ⟨k,L,e⟩:=h
 exact ⟨k,by rw [cmp_eq e];exact e⟩
theorem cmp_at (hs:∀ a,(cd a).kind=3→2≤(cd a).sl) {pl:Nat} {t:Thr} {z:Zt} (hz:z∈cmp cd text pl t):z 0=t.x 0∧(pl:Int)≤z 1:=by
 by_cases h:Has cd text pl t
 ·obtain ⟨k,e⟩:=h.cmp
  exact compF_at hs _ _ _ _ e z hz
 ·unfold cmp at hz
  rw [dif_neg h] at hz
  cases hz
end
section
variable {w:World} {b q:Nat} {src:ByteArray} {k:Nat} {bad:Int}
theorem mem_drop {c:Int} {of:ByteArray} {k:Nat} (hk:k < of.size):(of.data.toList.drop k).any (fun x=>((x.toNat:Int) == c))=((((of[k]'hk).toNat:Int) == c) || (of.data.toList.drop (k+1)).any fun x=>((x.toNat:Int) == c)):=by
 have e1:of.data.toList.drop k=of[k]'hk::of.data.toList.drop (k+1):=by
  rw [List.drop_eq_getElem_cons (by rw [Array.length_toList];exact hk)];rfl
 rw [e1,List.any_cons]
theorem member_any (c:Int) (of:ByteArray) (hof:of.size≤1000):Calls Tryz.prog 129 #[.int .i64 c,.string of] w fun e w'=>e=.returned (.bool (mem c of))∧w'=w:=by
 go_enter Tryz.func129,Tryz.ntmps129
 go_wp2_with fail
 go_loopw [5] (fun i wr=>∃ k:Nat,k≤of.size∧i=.int .i64 k∧wr=w∧Hid (mem c of=(of.data.toList.drop k).any fun x=>((x.toNat:Int) == c))) (fun i _=>of.size - (intOf i).toNat)
 case atStart=>exact ⟨0,by omega,rfl,rfl,hid rfl⟩
 case round=>
  obtain ⟨k,hk,rfl,rfl,he⟩:=hrel
  by_cases hlt:k < of.size
  ·obtain ⟨k1,hk1⟩:∃ k1:Nat,k1=k+1:=⟨_,rfl⟩
   have hkI:(k:Int)+1=(k1:Int):=by omega
   have hwr:=wrap_i64_nat k1 (by omega)
   have hd:=mem_drop (c:=c) hlt
   rw [he.out.symm] at hd
   have hb:=w64_byte (of[k]'hlt)
   cases hq:(((of[k]'hlt).toNat:Int) == c)
   ·rw [hq,Bool.false_or] at hd
    have HD:=hid (And.intro hd (And.intro hk1 hlt))
    clear hd he hk1
    go_wp2_with fail
    go_roundw
    ·obtain ⟨hd,hk1,hlt⟩:=HD.out
     exact ⟨k1,by omega,by go_num,trivial,by rw [hk1];exact hid hd⟩
    ·have:=HD.out.2
     simp [intOf];omega
   ·rw [hq,Bool.true_or] at hd
    have HD:=hid hd
    clear hd he hk1
    go_wp2_with fail
    go_ret
    exact ⟨by rw [HD.out];rfl,rfl⟩
  ·have hd:mem c of=false:=by
    rw [he.out,List.drop_of_length_le (by rw [Array.length_toList];have:=of.size_data;omega)];rfl
   have HD:=hid hd
   clear hd he
   go_wp2_with fail
   go_ret
   exact ⟨by rw [HD.out];rfl,rfl⟩
end
theorem Tryz.infoNodeR:(Tryz.prog.info? 192).map (fun i=>(i.size,i.bytes,i.zero.map (·.cells.size)))=some (262,320,some 262):=by kernel_rfl
theorem node_parts:∃ i z,Tryz.prog.info? 192=some i∧i.zero=some z∧i.size=262∧i.bytes=320∧z.cells.size=262:=by
 have h:=Tryz.infoNodeR
 cases e:Tryz.prog.info? 192 with
 | none=>rw [e] at h;cases h
 | some i=>
  rw [e] at h
  simp only [Option.map_some,Option.some.injEq,Prod.mk.injEq] at h
  obtain ⟨h1,h2,h3⟩:=h
  cases ez:i.zero with
  | none=>rw [ez] at h3;cases h3
  | some z=>
   rw [ez] at h3
   exact ⟨i,z,rfl,ez,h1,h2,Option.some.inj h3⟩
theorem Tryz.szNodeR:(Tryz.prog.info? 192).map (·.size)=some 262:=by kernel_rfl
theorem kp_grownR {w w':World} {o:Option Nat} {S:List Nat} (h:w.grownBy w' o) (hS:∀ p,o=some p→p∈S):Kp S w w':=
 ⟨h.os,h.tape,h.output,h.size,fun k hk hn=>h.block k hk (fun e=>hn (hS k (by first | exact e | exact e.symm)))⟩
theorem node_any {w:World} {b q B n:Nat} {src:ByteArray} {k:Nat} {bad:Int} {v:Value} {xs cs:List Value} (h:Pr w b q src k bad) (hq:w.cell? ⟨q,0,none⟩=some v) (fq:w.frozen? ⟨q,0,none⟩=false) (hown:w.ownsRow B 192 262 v n xs)
  (hbB:b < B) (hqB:q < B) (hB:B≤w.heap.size) (hcs:cs.length=262) (h1:∀ u∈cs,u.oneCell'=true) (hn:n≤100000) :
  Calls Tryz.prog 117 #[.pointer (some ⟨b,0,none⟩),.agg cs.toArray] w fun e w'=>e=.returned (.int .i64 n)∧∃ g c,w'.cell? ⟨q,0,none⟩=some (.slice (some ⟨g,0,none⟩) (n+1) c) ∧
   w'.ownsRow B 192 262 (.slice (some ⟨g,0,none⟩) (n+1) c) (n+1) (xs++cs)∧Kp (q::v.ownBlock.toList) w w'∧(v.ownBlock=some g∨w.heap.size≤g)∧∀ i,w'.cell? ⟨q,i+1,none⟩=w.cell? ⟨q,i+1,none⟩∧w'.frozen? ⟨q,i,none⟩=w.frozen? ⟨q,i,none⟩:=by
 obtain ⟨i0,z,hi,hz0,hz1,hz2,hz3⟩:=node_parts
 have hlt:=h.lt
 have hql:=World.block_lt_of_cell? _ _ hq
 obtain ⟨w1,hw1⟩:∃ w1,w1=w.alloc (.cells cs.toArray 192):=⟨_,rfl⟩
 have k1:Kp [] w w1:=by rw [hw1];exact Kp.alloc _ _ _
 have b1:Bl w1 w.heap.size cs:=by rw [hw1];exact Bl.alloc w cs _
 obtain ⟨cb,hcb⟩:∃ cb,cb=w.heap.size:=⟨_,rfl⟩
 have HI:=hid (And.intro hi (And.intro hz0 (And.intro hz1 (And.intro hz2 hz3))))
 clear hi hz0 hz1 hz2 hz3
 go_enter Tryz.func117,Tryz.ntmps117
 go_upto_region 1 with fail
 have c3:=(k1.cell (p:=⟨b,3,none⟩) hlt (by simp)).trans h.c3
 have q0:=(k1.cell (p:=⟨q,0,none⟩) hql (by simp)).trans hq
 have fq1:=(k1.frozen (p:=⟨q,0,none⟩) hql (by simp)).trans fq
 have o1:w1.ownsRow B 192 262 v n xs:=by rw [hw1];exact hown.alloc _
 have s1:w.heap.size≤w1.heap.size:=k1.size
 rw [←hw1]
 rw [←hcb] at b1 ⊢
 obtain ⟨o,ho⟩:∃ o:Obj,o=.cells cs.toArray 192:=⟨_,rfl⟩
 have k8:Kp [] w1 (w1.drew.alloc o):=(Kp.drew _ _).trans (Kp.alloc _ _ _)
 have hS:(fun w':World=>w'.cell? ⟨b,3,none⟩=some (.pointer (some ⟨q,0,none⟩))∧w'.cell? ⟨q,0,none⟩=some v∧w'.rangeAt cb 0 cs) w1.drew:=⟨c3,q0,b1.range⟩
 have hS8:(fun w':World=>w'.cell? ⟨b,3,none⟩=some (.pointer (some ⟨q,0,none⟩))∧w'.cell? ⟨q,0,none⟩=some v∧w'.rangeAt cb 0 cs) (w1.drew.alloc o):=
  ⟨(k8.cell (p:=⟨b,3,none⟩) (by show b < _;omega) (by simp)).trans c3,(k8.cell (p:=⟨q,0,none⟩) (by show q < _;have hql:q < w.heap.size:=hql;omega) (by simp)).trans q0,(b1.keep k8 (by simp)).range⟩
 have OW:Hid ((w1.drew.alloc o).ownsRow B 192 262 v n xs):=hid ((show w1.drew.ownsRow B 192 262 v n xs from o1).alloc _)
 have NW:Hid (∀ j u,cs[j]? = some u→(w1.drew.alloc o).cell? ((⟨w1.heap.size,0,none⟩:Addr).add j)=some u):=hid (fun j u hu=>by
  rw [Addr.add_mid,Nat.zero_add,ho]
  exact (Bl.alloc w1.drew _ 192).at_ j u hu)
 have HG:Hid (∀ w8,(w1.drew.alloc o).grownBy w8 v.ownBlock→w8.cell? ⟨b,3,none⟩=some (.pointer (some ⟨q,0,none⟩))∧w8.cell? ⟨q,0,none⟩=some v∧w8.frozen? ⟨q,0,none⟩=false∧w8.rangeAt cb 0 cs∧∀ i,w8.cell? ⟨q,i,none⟩=w.cell? ⟨q,i,none⟩∧w8.frozen? ⟨q,i,none⟩=w.frozen? ⟨q,i,none⟩):=hid (fun w8 hg=>by
  have hb2:w8.heap[b]? = (w1.drew.alloc o).heap[b]?:=hg.block b (by have:=k8.size;omega) (own_ne OW.out hbB)
  have hb3:w8.heap[q]? = (w1.drew.alloc o).heap[q]?:=hg.block q (by have:=k8.size;have hql:q < w.heap.size:=hql;omega) (own_ne OW.out hqB)
  have hb4:w8.heap[cb]? = (w1.drew.alloc o).heap[cb]?:=hg.block cb (by have:=k8.size;have:=b1.lt;omega) (fun e=>by
   have:=(hown.lt _ e.symm).2;omega)
  exact ⟨(World.cell?_of_block hb2).trans hS8.1,(World.cell?_of_block hb3).trans hS8.2.1,(World.frozen?_of_block hb3).trans ((k8.frozen (p:=⟨q,0,none⟩) (by show q < _;have hql:q < w.heap.size:=hql;omega) (by simp)).trans fq1),fun j u hu=>(World.cell?_of_block hb4).trans (hS8.2.2 j u hu),fun i=>⟨(World.cell?_of_block hb3).trans ((k1.trans k8).cell (p:=⟨q,i,none⟩) hql (by simp)),(World.frozen?_of_block hb3).trans ((k1.trans k8).frozen (p:=⟨q,i,none⟩) hql (by simp))⟩⟩)
 have HSZ:Hid (B≤(w1.drew.alloc o).heap.size):=hid (by have:=k8.size;omega)
 have HS8:=hid hS8
 have HC:=hid (And.intro hcs h1)
 have HF:=hid (And.intro hn (And.intro k1 (And.intro k8 (And.intro hcb hown))))
 rw [ho] at OW NW HG HSZ HS8 HF
 clear k1 hown hS8 k8 ho o hw1 fq1 o1 b1 hcs h1 hcb hlt hql s1
 refine wp_region_T (fun w'=>w'.cell? ⟨b,3,none⟩=some (.pointer (some ⟨q,0,none⟩))∧w'.cell? ⟨q,0,none⟩=some v∧w'.rangeAt cb 0 cs) 16 (by kernel_rfl) ?_
 refine tk1 0 (v:=?_) rfl (by kernel_rfl) (fun _ _ _ h=>h) ⟨rfl,fun w hSw=>?_⟩ hS ?_;rotate_left;· ((try dsimp only at hSw);go_simp;(try with_reducible rfl))
 (try simp only [List.getElem_toArray,List.getElem_cons_succ,List.getElem_cons_zero,Act.put,List.setIfInBounds_toArray,List.set_cons_zero,List.set_cons_succ])
 refine tk1 1 (v:=?_) rfl (by kernel_rfl) (fun _ _ _ h=>h) ⟨rfl,fun w hSw=>?_⟩ hS ?_;rotate_left;· ((try dsimp only at hSw);go_simp;(try with_reducible rfl))
 (try simp only [List.getElem_toArray,List.getElem_cons_succ,List.getElem_cons_zero,Act.put,List.setIfInBounds_toArray,List.set_cons_zero,List.set_cons_succ])
 refine tk1 2 (v:=?_) rfl (by kernel_rfl) (fun _ _ _ h=>h) ⟨rfl,fun w hSw=>?_⟩ hS ?_;rotate_left;· ((try dsimp only at hSw);go_simp;(try with_reducible rfl))
 (try simp only [List.getElem_toArray,List.getElem_cons_succ,List.getElem_cons_zero,Act.put,List.setIfInBounds_toArray,List.set_cons_zero,List.set_cons_succ])
 refine tk1 3 (v:=?_) rfl (by kernel_rfl) (fun _ _ _ h=>h) ⟨rfl,fun w hSw=>?_⟩ hS ?_;rotate_left;· ((try dsimp only at hSw);go_simp;(try with_reducible rfl))
 (try simp only [List.getElem_toArray,List.getElem_cons_succ,List.getElem_cons_zero,Act.put,List.setIfInBounds_toArray,List.set_cons_zero,List.set_cons_succ])
 refine tk1 4 (v:=?_) rfl (by kernel_rfl) (fun _ _ _ h=>h) ⟨rfl,fun w hSw=>?_⟩ hS ?_;rotate_left;· ((try dsimp only at hSw);go_simp;(try with_reducible rfl))
 (try simp only [List.getElem_toArray,List.getElem_cons_succ,List.getElem_cons_zero,Act.put,List.setIfInBounds_toArray,List.set_cons_zero,List.set_cons_succ])
 refine tk1 5 (v:=?_) rfl (by kernel_rfl) (fun _ _ _ h=>h) ⟨rfl,fun w hSw=>?_⟩ hS ?_;rotate_left;· ((try dsimp only at hSw);go_simp;(try with_reducible rfl))
 (try simp only [List.getElem_toArray,List.getElem_cons_succ,List.getElem_cons_zero,Act.put,List.setIfInBounds_toArray,List.set_cons_zero,List.set_cons_succ])
 refine tk1 6 (v:=?_) rfl (by kernel_rfl) (fun _ _ _ h=>h) ⟨rfl,fun w hSw=>?_⟩ hS ?_;rotate_left;· ((try dsimp only at hSw);go_simp;(try with_reducible rfl))
 (try simp only [List.getElem_toArray,List.getElem_cons_succ,List.getElem_cons_zero,Act.put,List.setIfInBounds_toArray,List.set_cons_zero,List.set_cons_succ])
 refine tk1 7 (v:=?_) rfl (by kernel_rfl) (fun _ _ _ h=>h) ⟨rfl,fun w hSw=>?_⟩ hS ?_;rotate_left;· ((try dsimp only at hSw);go_simp;(try with_reducible rfl))
 (try simp only [List.getElem_toArray,List.getElem_cons_succ,List.getElem_cons_zero,Act.put,List.setIfInBounds_toArray,List.set_cons_zero,List.set_cons_succ])
 refine tk1 8 (v:=?_) rfl (by kernel_rfl) (fun _ _ _ h=>h) ⟨rfl,fun w hSw=>?_⟩ hS ?_;rotate_left;· ((try dsimp only at hSw);go_simp;(try with_reducible rfl))
 (try simp only [List.getElem_toArray,List.getElem_cons_succ,List.getElem_cons_zero,Act.put,List.setIfInBounds_toArray,List.set_cons_zero,List.set_cons_succ])
 refine tk1 9 (v:=?_) rfl (by kernel_rfl) (fun _ _ _ h=>h) ⟨rfl,fun w hSw=>?_⟩ hS ?_;rotate_left;· ((try dsimp only at hSw);go_simp;(try with_reducible rfl))
 (try simp only [List.getElem_toArray,List.getElem_cons_succ,List.getElem_cons_zero,Act.put,List.setIfInBounds_toArray,List.set_cons_zero,List.set_cons_succ])
 refine tk1 10 (v:=?_) rfl (by kernel_rfl) (fun _ _ _ h=>h) ⟨rfl,fun w hSw=>?_⟩ hS ?_;rotate_left;· ((try dsimp only at hSw);go_simp;(try with_reducible rfl))
 (try simp only [List.getElem_toArray,List.getElem_cons_succ,List.getElem_cons_zero,Act.put,List.setIfInBounds_toArray,List.set_cons_zero,List.set_cons_succ])
 refine' wpAnyT_take (i:=11) (v:=_) rfl (by kernel_rfl) (by kernel_rfl) (by kernel_rfl) (by kernel_rfl) (fun _ _ _ h=>h) (yieldsIf_load_mid (by rfl) _ _ rfl _ _ rfl cs _ ?hS6 ?hu6 ?hd6 ?hi6) hS ?r6
 case hS6=>(intro w hw;exact hw.2.2)
 case hu6=>exact Tryz.underlying192
 case hd6=>rfl
 case hi6=>(rw [HC.out.1];exact Tryz.szNodeR)
 simp only [List.getElem_toArray,List.getElem_cons_succ,List.getElem_cons_zero,Act.put,List.setIfInBounds_toArray,List.set_cons_zero,List.set_cons_succ]
 refine wpAnyT_one (i:=12) (by kernel_rfl) rfl (fun K hK=>?_)
 refine step_one (by rfl) 113 192 (.tmp 16) (by rfl) cs i0 _ 262 (by rfl) Tryz.underlying113 HI.out.1 HI.out.2.1 HI.out.2.2.1 HI.out.2.2.2.2 HC.out.1 (by omega) (by omega) ?_
 refine hK.out _ _ (.inr HS8.out) ?_
 clear hK K
 simp only [List.getElem_toArray,List.getElem_cons_succ,List.getElem_cons_zero,Act.put,List.setIfInBounds_toArray,List.set_cons_zero,List.set_cons_succ]
 refine wpAnyT_one (i:=13) (by kernel_rfl) rfl (fun K hK=>?_)
 refine step_append2 (by rfl) (.tmp 15) (.tmp 17) 113 (by rfl) B 192 i0 _ 262 320 Tryz.underlying113 HI.out.1 HI.out.2.1 HI.out.2.2.1 HI.out.2.2.2.1 HI.out.2.2.2.2 (by decide) v n xs (by rfl) OW.out ⟨w1.heap.size,0,none⟩ 1 1 cs (by rfl) (by rw [HC.out.1]) NW.out HC.out.2 (by unfold maxLen;omega) (by omega) HSZ.out (by omega) ?_
 intro g cap w8 ho8 hg8 hor8
 have S8:(fun w':World=>w'.cell? ⟨b,3,none⟩=some (.pointer (some ⟨q,0,none⟩))∧w'.cell? ⟨q,0,none⟩=some v∧w'.rangeAt cb 0 cs) w8:=⟨(HG.out w8 hg8).1,(HG.out w8 hg8).2.1,(HG.out w8 hg8).2.2.2.1⟩
 have c3':=(HG.out w8 hg8).1
 have q0':=(HG.out w8 hg8).2.1
 have fq':=(HG.out w8 hg8).2.2.1
 have H8:=hid (And.intro ho8 (And.intro hg8 (And.intro hor8 (HG.out w8 hg8).2.2.2.2)))
 clear ho8 hg8 hor8
 refine hK.out _ _ (.inr S8) ?_
 clear hK K
 simp only [List.getElem_toArray,List.getElem_cons_succ,List.getElem_cons_zero,Act.put,List.setIfInBounds_toArray,List.set_cons_zero,List.set_cons_succ]
 refine wpAnyT_one (i:=14) (by kernel_rfl) rfl (fun K hK=>?_)
 go_simp
 refine hK.out _ _ (.inr S8) ?_
 clear hK K
 refine wpAnyT_one (i:=15) (by kernel_rfl) rfl (fun K hK=>?_)
 go_simp
 refine hK.out _ _ (.inr S8) ?_
 clear hK K
 refine wpAnyT_one (i:=16) (by kernel_rfl) rfl (fun K hK=>?_)
 go_simp
 refine hK.out _ _ (.inl rfl) ?_
 clear hK K
 refine wpAnyT_done (by kernel_rfl) ?_ _
 have hwn:IntKind.i64.wrap (((n+1:Nat):Int) - 1)=(n:Int):=by rw [IntKind.wrap_i64];omega
 have HQ:=hid (And.intro q0' S8)
 clear S8 hS hq fq
 go_wp2_with fail
 go_ret
 obtain ⟨ho8,hg8,hor8,hqq⟩:=H8.out
 obtain ⟨_,k1,k8,hcb,hown⟩:=HF.out
 have kg:Kp v.ownBlock.toList _ w8:=kp_grownR (S:=v.ownBlock.toList) hg8 (fun p hp=>by rw [hp];simp)
 refine ⟨rfl,g,cap,?_,?_,?_,?_,fun i=>⟨?_,?_⟩⟩
 ·exact cell_same _ HQ.out.1
 ·exact ownsRow_setCell_below ho8 hqB _
 ·exact ((k1.trans k8).mono (by simp)).trans ((kg.mono (fun x hx=>List.mem_cons_of_mem _ hx)).trans (Kp.setCell _ _ (by simp)))
 ·rcases hor8 with q1 | q1
  ·exact .inl q1
  ·exact .inr (by have:=k8.size;have:=k1.size;omega)
 ·rw [cell_other _ (by simp)];exact (hqq _).1
 ·have:=(hqq i).2;simpa using this
