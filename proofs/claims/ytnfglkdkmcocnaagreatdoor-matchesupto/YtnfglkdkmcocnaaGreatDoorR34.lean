import Derived.Test.YtnfglkdkmcocnaaGreatDoorR28
set_option maxRecDepth 100000
set_option maxHeartbeats 16000000
set_option linter.all false
namespace Go.Proofs.YtnfglkdkmcocnaaGreatDoor
open Go.RowKit
section
variable {w w' w1:World} {B b q:Nat} {src:ByteArray} {k g:Nat} {bad:Int} {v v' v1:Value} {N:List Nw}
theorem newVarA {P:Program} {ops:Array Oper} {rest:List Oper} {op:Oper} {a:Act} {w1:World} {Q:Exit→Act→World→Prop} {nb:Nat} (hnb:w1.heap.size=nb) (hgd:op.guard=none) (ty:TypeId) (x y:Operand) (ho:op.op=.store ty x y) (zs:List Value) (T:TypeId) (cells:List Value)
  (hx:a.eval x=.pointer (some ⟨nb,0,none⟩)) (hy:a.eval y=.agg cells.toArray) (hl:cells.length=zs.length) (hi:(P.info? ty).map (·.size)=some cells.length) (h1:∀ u∈cells,u.oneCell'=true)
  (h:∀ w2,Bl w2 nb cells→Kp [] w1 w2→wpList P ops Q rest (a.put op.dst undef) w2):wpList P ops Q (op::rest) a (w1.alloc (.cells zs.toArray T)):=by
 subst hnb
 exact newVarR hgd ty x y ho zs T cells hx hy hl hi h1 h
def fst_ (c:Nat):Nat→Bool:=fun x=>decide (x < c)
theorem atom_dotR (h:Ps w B b q src k g (-1) v N) (hk:k < src.size) (hc:(src[k]'hk).toNat=46) (hn:N.length≤100000) :
  Calls Tryz.prog 210 #[.pointer (some ⟨b,0,none⟩)] w (RpO src B b q k v N 0 1 w (.ok (k+1,g,.one fun x=>!noBytes x))):=by
 have c0:=h.pr.c0
 have c1:=h.pr.c1
 have f1:=h.pr.free 1
 have hsm:=h.pr.small
 have w4:IntKind.i64.wrap ((k:Int)+1)=((k+1:Nat):Int):=wrap_i64_succ k (k+1) rfl (by omega)
 obtain ⟨W1,hW1⟩:∃ W1,W1=w.setCell ⟨b,1,none⟩ (.int .i64 ((k+1:Nat):Int)):=⟨_,rfl⟩
 have P1:=h.ahead hk
 rw [←hW1] at P1
 have K1:=Pk.ahead b q k v w
 rw [←hW1] at K1
 have HP:=hid (And.intro P1 K1)
 have zn:=zero_node
 obtain ⟨z0,hz0⟩:∃ z0:List Value,z0=ndC (setN noBytes) noK:=⟨_,rfl⟩
 have hzl:z0.length=262:=by rw [hz0];exact ndC_len _ _
 have hz1:∀ u∈z0,u.oneCell'=true:=by rw [hz0];exact ndC_one _ rfl
 rw [←hz0] at zn
 have HZ:=hid hz0
 have HW:=hid hW1
 clear hz0 h P1 K1 hW1
 have HS:Hid ((w.setCell ⟨b,1,none⟩ (.int .i64 ((k:Int)+1))).heap.size=w.heap.size):=hid (by simp [World.setCell])
 go_enter Tryz.func210,Tryz.ntmps210
 go_upto_region 18 with (refine newVarA (w1:=w.setCell ⟨b,1,none⟩ (.int .i64 ((k:Int)+1))) (nb:=w.heap.size) HS.out rfl 192 (.tmp 8) (.tmp 90) rfl Tryz.zeroCells192.toList 192 z0 rfl (by rw [HZ.out];kernel_rfl) (by rw [hzl];kernel_rfl) (by rw [hzl];exact Tryz.szNodeR) hz1 ?_;intro w2 b2 k2)
 have hW':w.setCell ⟨b,1,none⟩ (.int .i64 ((k:Int)+1))=W1:=HW.out.symm
 have hS':W1.heap.size=w.heap.size:=by rw [←hW'];exact HS.out
 rw [hW'] at k2
 obtain ⟨cb,hcb⟩:∃ cb,cb=w.heap.size:=⟨_,rfl⟩
 rw [←hcb] at b2 ⊢
 rw [HZ.out] at b2
 have HB:=hid (And.intro b2 (And.intro k2 (hcb.trans hS'.symm)))
 clear b2 k2 hcb hS' hW' HS
 go_wp2_with fail
 go_loopw [9] (fun cv wr=>∃ c:Nat,c≤256∧cv=.int .i64 c∧Sb wr cb (fst_ c)∧Kp [cb] w2 wr) (fun cv _=>256 - (intOf cv).toNat)
 case atStart=>exact ⟨0,by omega,rfl,Sb.congr HB.out.1 (fun x _=>by unfold fst_ noBytes;simp),Kp.refl _ _⟩
 case round=>
  obtain ⟨c,hc9,rfl,sc,kc⟩:=hrel
  by_cases hlt:c < 256
  ·have gg:=sc.get hlt
   have g1:=gg.1
   have g2:=gg.2
   have hc1:IntKind.i64.wrap ((c:Int)+1)=((c+1:Nat):Int):=wrap_i64_succ c (c+1) rfl (by omega)
   have hcI:(c:Int) < 256:=by omega
   have hc0:(0:Int)≤c:=by omega
   have s2:Sb (wr.setCell ⟨cb,1+c,none⟩ (.bool true)) cb (fst_ (c+1)):=(sc.put hlt true).congr fun x _=>by
    unfold upd fst_
    by_cases e:x=c
    ·simp [e]
    ·rw [if_neg e,Bool.eq_iff_iff];simp;omega
   have H2:=hid (And.intro s2 (And.intro (kc.trans (Kp.setCell (S:=[cb]) wr (p:=⟨cb,1+c,none⟩) (.bool true) (by simp))) hlt))
   clear s2 sc kc gg hlt
   go_wp2_with fail
   go_roundw
   ·exact ⟨c+1,by have:=H2.out.2.2;omega,by go_num,H2.out.1,H2.out.2.1⟩
   ·have:=H2.out.2.2
    simp [intOf];omega
  ·have c256:c=256:=by omega
   have q1:¬ (c:Int) < 256:=by omega
   have RG:=hid (Bl.range (Sb.congr (m':=fst_ 256) sc (fun x _=>by rw [c256])))
   have kk:Kp [] W1 wr:=(((HB.out.2.1.mono (by simp)).trans kc).own (Nat.le_of_eq HB.out.2.2.symm))
   have P3:=hid (And.intro (HP.out.1.keep kk) (HP.out.2.trans (Pk.of_kp kk (by simp))))
   clear sc kc kk hlt c256
   go_wp2_with (first | (refine wpList_load_mid rfl 192 (.tmp 8) rfl cb 0 rfl (ndC (setN (fst_ 256)) noK) _ RG.out Tryz.underlying192 rfl (by rw [ndC_len];exact Tryz.szNodeR) ?_) | fail)
   refine (node_push P3.out.1 (setN (fst_ 256)) (Kd.nil _ _ _) hn).mono ?_
   rintro e w5 ⟨rfl,v5,p5,k5⟩
   have H5:=hid (And.intro p5 k5)
   clear p5 k5
   go_wp2_with fail
   go_ret
   exact ⟨N.length,v5,_,rfl,P3.out.2.trans H5.out.2,Fr.no _ _,by simp,H5.out.1,.one (last_app _ _) rfl rfl (fun x hx=>by show fst_ 256 x=_;unfold fst_ noBytes;simp [hx]),by show 1+_≤_;omega,Aln.set _ _⟩
end
section
variable {w w' w1:World} {B b q:Nat} {src:ByteArray} {k g:Nat} {bad:Int} {v v' v1:Value} {N:List Nw}
theorem RpO.mono {cs cf cs' cf':Nat} {r:Except Nat (Nat×Nat×Pn)} {e:Ending} (h:RpO src B b q k v N cs cf w r e w') (h1:cs≤cs') (h2:cf≤cf'):RpO src B b q k v N cs' cf' w r e w':=by
 obtain ⟨i,v',M,he,hk,hf,hi,hm⟩:=h
 refine ⟨i,v',M,he,hk,hf,hi,?_⟩
 match r,hm with
 | .ok (l,g',x),hm=>exact ⟨hm.1,hm.2.1,by have:=hm.2.2.1;omega,hm.2.2.2⟩
 | .error pl,hm=>
  obtain ⟨l',g',hm,hl⟩:=hm
  exact ⟨l',g',hm,by omega⟩
theorem mem_bars {c:Nat} (h:c≠40∧c≠46∧c≠94∧c≠36∧c≠91∧c≠92∧c≠124∧c≠41):mem (c:Int) bars=(decide (c=10) || mem (c:Int) special):=by
 rw [Bool.eq_iff_iff]
 simp [mem,bars,special]
 omega
theorem atom_any {n:Nat} (h:Ps w B b q src k g (-1) v N) (hk:k < src.size) (hg:g≤9) (h124:saw src k 124=false) (h41:saw src k 41=false) (hn:N.length+6 * (src.size - k)≤90000)
  (hR:saw src k 40=true→g < 9→∀ l g' x,brsP src n (k+1) (g+1)=.ok (l,g',x)→x.raw≤4000000000000000000)
  (hB:saw src k 40=true→g < 9→∀ w1,Ps w1 B b q src (k+1) (g+1) (-1) v N→Calls Tryz.prog 66 #[.pointer (some ⟨b,0,none⟩)] w1 (RpO src B b q (k+1) v N 2 4 w1 (brsP src n (k+1) (g+1)))) :
  Calls Tryz.prog 210 #[.pointer (some ⟨b,0,none⟩)] w (RpO src B b q k v N 0 1 w (atomD src (n+1) k g)):=by
 have hn':N.length≤100000:=by omega
 obtain ⟨c,hc⟩:∃ c,(src[k]'hk).toNat=c:=⟨_,rfl⟩
 have s:∀ d:Nat,saw src k (d:Int)=decide (c=d):=fun d=>by rw [saw_at hk,hc]
 have s94:saw src k 94=decide (c=94):=s 94
 have s36:saw src k 36=decide (c=36):=s 36
 have s40:saw src k 40=decide (c=40):=s 40
 have s46:saw src k 46=decide (c=46):=s 46
 have s91:saw src k 91=decide (c=91):=s 91
 have s92:saw src k 92=decide (c=92):=s 92
 have s10:saw src k 10=decide (c=10):=s 10
 have s124:saw src k 124=decide (c=124):=s 124
 have s41:saw src k 41=decide (c=41):=s 41
 rw [h124] at s124
 rw [h41] at s41
 have n124:c≠124:=by simpa using s124
 have n41:c≠41:=by simpa using s41
 unfold atomD
 by_cases e94:c=94
 ·rw [if_pos (by rw [s94];simpa using e94)]
  exact (atom_edge h hk (.inl ⟨rfl,e94⟩) hc hn').mono fun _ _ r=>r.mono (by omega) (by omega)
 rw [if_neg (by rw [s94];simpa using e94)]
 by_cases e36:c=36
 ·rw [if_pos (by rw [s36];simpa using e36)]
  exact (atom_edge h hk (.inr ⟨rfl,e36⟩) hc hn').mono fun _ _ r=>r.mono (by omega) (by omega)
 rw [if_neg (by rw [s36];simpa using e36)]
 unfold atomP
 by_cases e40:c=40
 ·have t40:saw src k 40=true:=by rw [s40];simpa using e40
  rw [if_pos t40]
  by_cases g9:g=9
  ·subst g9
   rw [if_pos rfl]
   exact atom_full h hk (hc.trans e40) hn'
  ·rw [if_neg g9]
   have:=atom_groupR h hk (by omega) (hc.trans e40) hn (fun l g' x e=>((nodes_ok src n).2.2.2.2 (k+1) (g+1) l g' x (by omega) e).1) (hR t40 (by omega)) (hB t40 (by omega))
   unfold grpR at this
   exact this
 rw [if_neg (by rw [s40];simpa using e40)]
 by_cases e46:c=46
 ·rw [if_pos (by rw [s46];simpa using e46)]
  exact atom_dotR h hk (hc.trans e46) hn'
 rw [if_neg (by rw [s46];simpa using e46)]
 by_cases e91:c=91
 ·rw [if_pos (by rw [s91];simpa using e91)]
  have:=atom_classR h hk (hc.trans e91) hn'
  unfold clsR at this
  exact this
 rw [if_neg (by rw [s91];simpa using e91)]
 unfold bytP
 by_cases e92:c=92
 ·rw [if_pos (by rw [s92];simpa using e92)]
  have:=atom_escR h hk (hc.trans e92) hn'
  unfold bytR at this
  exact this
 rw [if_neg (by rw [s92];simpa using e92),dif_pos hk]
 have hy:=mem_bars (c:=c) ⟨e40,e46,e94,e36,e91,e92,n124,n41⟩
 have hm:mem (c:Int) special = !decide (Lib.indexByte special.data.toList (src[k]'hk) < 0):=by rw [←hc];exact mem_idx _ _
 have hA:=atom_byteR h hk hc ⟨by simpa using e40,by simpa using e46,by simpa using e94,by simpa using e36,by simpa using e91,by simpa using e92⟩ hy hn'
 unfold bytR at hA
 rw [s10]
 rw [hm] at hA
 by_cases e10:c=10
 ·rw [if_pos (by simpa using e10)]
  rw [if_pos (by simp [e10])] at hA
  exact hA
 ·rw [if_neg (by simpa using e10)]
  by_cases hi:Lib.indexByte special.data.toList (src[k]'hk) < 0
  ·rw [if_pos hi,hc]
   rw [if_neg (by simp [e10,hi])] at hA
   exact hA
  ·rw [if_neg hi]
   rw [if_pos (by simp [hi])] at hA
   exact hA
end
section
variable {w w' w1:World} {B b q:Nat} {src:ByteArray} {k g:Nat} {bad:Int} {v v' v1:Value} {N:List Nw}
def pcR (src:ByteArray) (r:Except Nat (Nat×Nat×Pn)):Except Nat (Nat×Nat×Pn):=match r with
 | .error pl=>.error pl
 | .ok (l,g',.edge e)=>.ok (l,g',.edge e)
 | .ok (l,g',x)=>match repP src l with
  | .error pl=>.error pl
  | .ok (l2,r)=>.ok (l2,g',x.times r)
theorem atomP_kind {n l g':Nat} {x:Pn} (h:atomP src n k g=.ok (l,g',x)):(∃ m,x=.one m)∨∃ j y,x=.group j y:=by
 cases n with
 | zero=>rw [atomP] at h;cases h
 | succ n=>
  rw [atomP] at h
  repeat' split at h
  all_goals first | (cases h;done) | (cases h;exact .inl ⟨_,rfl⟩) | (cases h;exact .inr ⟨_,_,rfl⟩)
theorem piece_eq {n:Nat}:pieceP src (n+1) k g=pcR src (atomD src n k g):=by
 rw [pieceP]
 unfold atomD
 by_cases h1:saw src k 94=true
 ·rw [if_pos h1,if_pos h1];rfl
 ·rw [if_neg h1,if_neg h1]
  by_cases h2:saw src k 36=true
  ·rw [if_pos h2,if_pos h2];rfl
  ·rw [if_neg h2,if_neg h2]
   cases hr:atomP src n k g with
   | error pl=>rfl
   | ok p=>
    obtain ⟨l,g',x⟩:=p
    rcases atomP_kind hr with ⟨m,rfl⟩ | ⟨j,y,rfl⟩ <;> rfl
theorem piece_bad {pl:Nat} (hA:Calls Tryz.prog 210 #[.pointer (some ⟨b,0,none⟩)] w (RpO src B b q k v N 0 1 w (.error pl))) :
  Calls Tryz.prog 167 #[.pointer (some ⟨b,0,none⟩)] w (RpO src B b q k v N 0 1 w (.error pl)):=by
 have HA:=hid hA
 clear hA
 go_enter Tryz.func167,Tryz.ntmps167
 go_wp2_with fail
 refine HA.out.mono ?_
 rintro e w6 ⟨i,v6,M,rfl,k6,hf,hi,l6,g6,p6,hl⟩
 have HM:=hid (And.intro k6 (And.intro hi (And.intro p6 hl)))
 have HFr:=hid hf
 clear k6 hf hi hl
 go_wp2_with fail
 refine (okR_any p6.pr (v:=false) (by simp)).mono ?_
 rintro e w7 ⟨rfl,rfl⟩
 clear p6
 go_wp2_with fail
 go_ret
 exact ⟨i,v6,M,rfl,HM.out.1,HFr.out,HM.out.2.1,l6,g6,HM.out.2.2⟩
theorem piece_edge {l g' x:Nat} (hx:x=1∨x=2) (hA:Calls Tryz.prog 210 #[.pointer (some ⟨b,0,none⟩)] w (RpO src B b q k v N 0 1 w (.ok (l,g',.edge x)))) (hn:N.length+6 * (src.size - k)≤90000) :
  Calls Tryz.prog 167 #[.pointer (some ⟨b,0,none⟩)] w (RpO src B b q k v N 0 1 w (.ok (l,g',.edge x))):=by
 have HA:=hid hA
 clear hA
 go_enter Tryz.func167,Tryz.ntmps167
 go_wp2_with fail
 refine HA.out.mono ?_
 rintro e w6 ⟨i,v6,M,rfl,k6,hf,hi,p6,hr,hl⟩
 obtain ⟨NM,hNM⟩:∃ NM,NM=N++M:=⟨_,rfl⟩
 have HM:=hid (And.intro k6 (And.intro hi (And.intro p6 (And.intro hr (And.intro hl hNM)))))
 rw [←hNM] at p6 hr
 have hnn:NM.length≤100000:=by have:=hl.1;rw [hNM,List.length_append];omega
 obtain ⟨p,hp,hkd⟩:∃ p,NM[i]? = some p∧p.1.kind=x+1:=by cases hr;exact ⟨_,by assumption,by assumption⟩
 obtain ⟨gb,c,hv6,hlt,hcn,hcell⟩:=p6.nodes hp
 have hc0:=hcell 0 _ (by omega) (ndC_at p.1 p.2).1
 rw [Nat.add_zero,hkd] at hc0
 have c3:=p6.pr.c3
 have q0:=p6.q0
 rw [hv6] at q0
 have HV:=hid (And.intro p6 hv6)
 have HFr:=hid hf
 clear k6 hf hi hr hl hNM hcell hp hkd hv6
 rcases hx with rfl | rfl
 all_goals
  go_wp2_with fail
  refine (okR_any p6.pr (v:=true) (by simp)).mono ?_
  rintro e w7 ⟨rfl,rfl⟩
  clear p6
  go_wp2_with fail
  go_ret
  exact ⟨i,v6,M,rfl,HM.out.1,HFr.out,HM.out.2.1,HM.out.2.2.1,HM.out.2.2.2.1,HM.out.2.2.2.2.1⟩
end
section
variable {w w' w1:World} {B b q:Nat} {src:ByteArray} {k g:Nat} {bad:Int} {v v' v1:Value} {N:List Nw}
theorem rep_node0 (gb:Nat) (mo z:Int) (js:List Nat):∀ w,(Instr.build 192 #[(0,.int .i64 7),(4,.int .i64 mo),(5,.slice (some ⟨gb,0,none⟩) 1 1),(6,.int .i64 z)]).run Tryz.prog w=.ok (.agg (ndC ⟨7,noBytes,0,0,mo,js,z⟩ (.slice (some ⟨gb,0,none⟩) 1 1)).toArray) w:=fun w=>run_build w _ _ _ (by kernel_rfl)
theorem rep_node (gb:Nat) (le mo z:Int) (js:List Nat):∀ w,(Instr.build 192 #[(0,.int .i64 7),(3,.int .i64 le),(4,.int .i64 mo),(5,.slice (some ⟨gb,0,none⟩) 1 1),(6,.int .i64 z)]).run Tryz.prog w=.ok (.agg (ndC ⟨7,noBytes,0,le,mo,js,z⟩ (.slice (some ⟨gb,0,none⟩) 1 1)).toArray) w:=fun w=>run_build w _ _ _ (by kernel_rfl)
theorem rep_fin {M:List Nw} {i l l2 g2 a:Nat} {bo:Option Nat} {le mo z:Int} {v10 kv:Value} {w10:World} {x:Pn} (hok:(Pn.rep x a bo).Ok) (hf:Fr w M) (hkv:∀ z,kv.ownBlock=some z→w.heap.size≤z) (hi:i < (N++M).length) (hr:Rp (N++M) i x) (hm:M.length+6 * (src.size - l)≤6 * (src.size - k)+0∧Aln N M) (hl:l < l2∧l2≤src.size)
  (p10:Ps w10 B b q src l2 g2 (-1) v10 (N++M++[(⟨7,noBytes,0,le,mo,[i],z⟩,kv)])) (hle:le=(a:Int)) (hmo:mo=(match bo with | none=>-1 | some m=>(m:Int))) (hz:z=((Pn.rep x a bo).raw:Nat)) (kk:Pk b q v v10 w w10) :
  RpO src B b q k v N 0 1 w (.ok (l2,g2,.rep x a bo)) (.returned (.int .i64 (N++M).length)) w10:=by
 have el:(M++[((⟨7,noBytes,0,le,mo,[i],z⟩:Nv),kv)]).length=M.length+1:=by simp
 rw [List.append_assoc] at p10
 suffices hR:Rp (N++(M++[(⟨7,noBytes,0,le,mo,[i],z⟩,kv)])) (N++M).length (.rep x a bo) from ⟨(N++M).length,v10,M++[(⟨7,noBytes,0,le,mo,[i],z⟩,kv)],rfl,kk,hf.push hkv,len_last _ _ _,p10,hR,by have:=hm.1;rw [el];omega,hm.2.push hR hok ⟨by simp,fun c hc=>by rw [List.mem_singleton.1 hc];exact hi⟩⟩
 refine .rep (j:=i) (p:=(⟨7,noBytes,0,le,mo,[i],z⟩,kv)) ?_ rfl hle hmo rfl hi hz ?_
 ·rw [←List.append_assoc];exact last_app _ _
 ·rw [←List.append_assoc];exact hr.app _
def notEdge (x:Pn):Prop:=(∃ m,x=.one m)∨∃ j y,x=.group j y
theorem Rp.kind {N:List Nw} {i:Nat} {x:Pn} (h:Rp N i x) (hx:notEdge x):∃ p,N[i]? = some p∧p.1.size=(x.raw:Nat)∧(p.1.kind=1∨p.1.kind=4):=by
 rcases hx with ⟨m,rfl⟩ | ⟨j,y,rfl⟩
 ·cases h with
  | one hi hk hz hm=>exact ⟨_,hi,by rw [hz];rfl,.inl hk⟩
 ·cases h with
  | group hi hk hg hs hj hz h=>exact ⟨_,hi,hz,.inr hk⟩
theorem pcR_rep {l l2 g':Nat} {x:Pn} {r:Option (Nat×Option Nat)} (hx:notEdge x) (h:repP src l=.ok (l2,r)):pcR src (.ok (l,g',x))=.ok (l2,g',x.times r):=by
 rcases hx with ⟨m,rfl⟩ | ⟨j,y,rfl⟩ <;> (unfold pcR;dsimp only;rw [h])
theorem pcR_bad {l pl g':Nat} {x:Pn} (hx:notEdge x) (h:repP src l=.error pl):pcR src (.ok (l,g',x))=.error pl:=by
 rcases hx with ⟨m,rfl⟩ | ⟨j,y,rfl⟩ <;> (unfold pcR;dsimp only;rw [h])
theorem piece_simple {l g':Nat} {x:Pn} (hx:notEdge x) (hraw:x.raw≤400000000000000000) (hls:l≤src.size) (h123:saw src l 123=false) (hA:Calls Tryz.prog 210 #[.pointer (some ⟨b,0,none⟩)] w (RpO src B b q k v N 0 1 w (.ok (l,g',x)))) (hn:N.length+6 * (src.size - k)≤90000) (hOk:∀ l2 g2 y,pcR src (.ok (l,g',x))=.ok (l2,g2,y)→y.Ok) :
  Calls Tryz.prog 167 #[.pointer (some ⟨b,0,none⟩)] w (RpO src B b q k v N 0 1 w (pcR src (.ok (l,g',x)))):=by
 have HA:=hid hA
 have HOk:=hid hOk
 clear hA hOk
 go_enter Tryz.func167,Tryz.ntmps167
 go_wp2_with fail
 refine HA.out.mono ?_
 rintro e w6 ⟨i,v6,M,rfl,k6,hf,hi,p6,hr,hl⟩
 obtain ⟨NM,hNM⟩:∃ NM,NM=N++M:=⟨_,rfl⟩
 have HM:=hid (And.intro k6 (And.intro hi (And.intro p6 (And.intro hr (And.intro hl hNM)))))
 rw [←hNM] at p6 hr
 have hnn:NM.length≤100000:=by have:=hl.1;rw [hNM,List.length_append];omega
 obtain ⟨p,hp,hsz,hkd⟩:=hr.kind hx
 obtain ⟨gb,c,hv6,hlt,hcn,hcell⟩:=p6.nodes hp
 have hc0:=hcell 0 _ (by omega) (ndC_at p.1 p.2).1
 rw [Nat.add_zero] at hc0
 obtain ⟨kd,hkk⟩:∃ kd,p.1.kind=kd:=⟨_,rfl⟩
 rw [hkk] at hc0 hkd
 have e2:((kd:Int) == 2)=false:=by rw [beq_eq_false_iff_ne];omega
 have e3:((kd:Int) == 3)=false:=by rw [beq_eq_false_iff_ne];omega
 have c3:=p6.pr.c3
 have q0:=p6.q0
 rw [hv6] at q0
 obtain ⟨sz,hsz'⟩:∃ sz,x.raw=sz:=⟨_,rfl⟩
 rw [hsz'] at hsz hraw
 have P7:=p6.keep (Kp.alloc [] w6 (.cells #[.int .i64 (i:Nat)] 3))
 have F7:=Kd.fresh w6 (j:=i) p6.hB p6.vlt
 obtain ⟨w7,hw7⟩:∃ w7,w7=w6.alloc (.cells #[.int .i64 (i:Nat)] 3):=⟨_,rfl⟩
 have k7:Pk b q v6 v6 w6 w7:=by rw [hw7];exact Pk.of_kp (S:=[]) (Kp.alloc _ _ _) (by simp)
 rw [←hw7] at P7 F7
 obtain ⟨hs6,hhs⟩:∃ hs6,hs6=w6.heap.size:=⟨_,rfl⟩
 rw [←hhs] at F7
 have HS:=hid (And.intro hp (And.intro hsz (And.intro hnn (And.intro hsz' (And.intro P7 (And.intro F7 k7))))))
 have HW:=hid (And.intro hw7 hhs)
 have HFr:=hid (And.intro hf (show ∀ z,(Value.slice (some ⟨hs6,0,none⟩) 1 1).ownBlock=some z→w.heap.size≤z from fun z hz=>by have e:hs6=z:=Option.some.inj hz;have:=k6.kp.size;omega))
 clear k6 hf hi hr hl hNM hcell hp hkd hv6 hsz hnn hsz' F7 k7 hw7 hhs hkk P7
 go_wp2_with fail
 refine (okR_any p6.pr (v:=true) (by simp)).mono ?_
 rintro e w8 ⟨rfl,rfl⟩
 go_wp2_with fail
 refine (sizeOf_any p6 HS.out.1 HS.out.2.2.1).mono ?_
 rw [HS.out.2.1]
 rintro e w8 ⟨rfl,rfl⟩
 clear p6 c3 q0 hc0
 go_upto_region 6 with fail
 rw [←HW.out.1,←HW.out.2]
 have pk0:∀ (r:Except Nat (Nat×Nat×Pn)),pcR src (.ok (l,g',x))=r→∀ e wx,((∀ l2 g2 y,r=.ok (l2,g2,y)→y.Ok)→RpO src B b q k v N 0 1 w r e wx)→RpO src B b q k v N 0 1 w (pcR src (.ok (l,g',x))) e wx:=fun r h e wx hr=>by rw [h];exact hr fun l2 g2 y e2=>HOk.out _ _ _ (h.trans e2)
 have HQ:=hid pk0
 clear pk0
 obtain ⟨y42,h42⟩:∃ y,saw src l 42=y:=⟨_,rfl⟩
 go_wp2_with fail
 refine (takeR_any 42 HS.out.2.2.2.2.1.pr h42).mono ?_
 rintro e w9 ⟨rfl,p9,k9⟩
 have P9:=HS.out.2.2.2.2.1.move k9 (by simp) p9
 have F9:=HS.out.2.2.2.2.2.1.keep k9 (fun y hy=>by rw [List.mem_singleton.1 hy];exact P9.hb)
 have K9:=HS.out.2.2.2.2.2.2.trans (Pk.of_kp (v:=v6) (q:=q) k9 (by simp))
 clear p9 k9
 cases y42 with
 | true=>
  have P9':Ps w9 B b q src (l+1) g' (-1) v6 NM:=P9
  have hlt':=saw_lt h42
  obtain ⟨z,hz⟩:∃ z,sz+1=z:=⟨_,rfl⟩
  have wz:IntKind.i64.wrap ((sz:Int)+1)=(z:Int):=by rw [IntKind.wrap_i64];omega
  have en:=rep_node0 hs6 (-1) (z:Int) [i]
  have H9:=hid (And.intro P9' (And.intro F9 (And.intro K9 hz)))
  clear P9 F9 K9 P9' hz
  go_wp2_with fail
  refine (node_push H9.out.1 ⟨7,noBytes,0,0,-1,[i],(z:Nat)⟩ H9.out.2.1 HS.out.2.2.1).mono ?_
  rintro e w10 ⟨rfl,v10,p10,k10⟩
  have H10:=hid (And.intro p10 k10)
  clear p10 k10
  go_wp2_with fail
  go_ret
  obtain ⟨hp,hsz,hnn,hsz',_⟩:=HS.out
  obtain ⟨k6,hi,p6,hr,hl,hNM⟩:=HM.out
  subst hNM
  refine HQ.out _ (pcR_rep hx (l2:=l+1) (r:=some (0,none)) (by unfold repP;rw [h42];rfl)) _ _ (fun hok=>?_)
  exact rep_fin (hok _ _ _ rfl) HFr.out.1 HFr.out.2 (Nat.lt_of_succ_le (Nat.le_of_eq hi)) hr hl ⟨by omega,by omega⟩ H10.out.1 rfl rfl (by have:=H9.out.2.2.2;rw [Pn.raw,hsz'];omega) (k6.trans (H9.out.2.2.1.trans H10.out.2))
 | false=>
  have P9:Ps w9 B b q src l g' (-1) v6 NM:=P9
  obtain ⟨y43,h43⟩:∃ y,saw src l 43=y:=⟨_,rfl⟩
  go_wp2_with fail
  refine (takeR_any 43 P9.pr h43).mono ?_
  rintro e w11 ⟨rfl,p11,k11⟩
  have P11:=P9.move k11 (by simp) p11
  have F11:=F9.keep k11 (fun y hy=>by rw [List.mem_singleton.1 hy];exact P9.hb)
  have K11:=K9.trans (Pk.of_kp (v:=v6) (q:=q) k11 (by simp))
  clear p11 k11 P9 F9 K9
  cases y43 with
  | true=>
   have P9':Ps w11 B b q src (l+1) g' (-1) v6 NM:=P11
   have hlt':=saw_lt h43
   obtain ⟨z,hz⟩:∃ z,2 * sz+1=z:=⟨_,rfl⟩
   obtain ⟨d,hd⟩:∃ d,d=2 * sz:=⟨_,rfl⟩
   have wz0:IntKind.i64.wrap (2 * (sz:Int))=(d:Int):=by rw [IntKind.wrap_i64];omega
   have wz:IntKind.i64.wrap ((d:Int)+1)=(z:Int):=by rw [IntKind.wrap_i64];omega
   clear hd
   have en:=rep_node hs6 1 (-1) (z:Int) [i]
   have H9:=hid (And.intro P9' (And.intro F11 (And.intro K11 hz)))
   clear P11 F11 K11 P9' hz
   go_wp2_with fail
   refine (node_push H9.out.1 ⟨7,noBytes,0,1,-1,[i],(z:Nat)⟩ H9.out.2.1 HS.out.2.2.1).mono ?_
   rintro e w10 ⟨rfl,v10,p10,k10⟩
   have H10:=hid (And.intro p10 k10)
   clear p10 k10
   go_wp2_with fail
   go_ret
   obtain ⟨hp,hsz,hnn,hsz',_⟩:=HS.out
   obtain ⟨k6,hi,p6,hr,hl,hNM⟩:=HM.out
   subst hNM
   refine HQ.out _ (pcR_rep hx (l2:=l+1) (r:=some (1,none)) (by unfold repP;rw [h42,h43];rfl)) _ _ (fun hok=>?_)
   exact rep_fin (hok _ _ _ rfl) HFr.out.1 HFr.out.2 (Nat.lt_of_succ_le (Nat.le_of_eq hi)) hr hl ⟨by omega,by omega⟩ H10.out.1 rfl rfl (by have:=H9.out.2.2.2;rw [Pn.raw,hsz'];omega) (k6.trans (H9.out.2.2.1.trans H10.out.2))
  | false=>
   have P11:Ps w11 B b q src l g' (-1) v6 NM:=P11
   obtain ⟨y63,h63⟩:∃ y,saw src l 63=y:=⟨_,rfl⟩
   go_wp2_with fail
   refine (takeR_any 63 P11.pr h63).mono ?_
   rintro e w12 ⟨rfl,p12,k12⟩
   have P12:=P11.move k12 (by simp) p12
   have F12:=F11.keep k12 (fun y hy=>by rw [List.mem_singleton.1 hy];exact P11.hb)
   have K12:=K11.trans (Pk.of_kp (v:=v6) (q:=q) k12 (by simp))
   clear p12 k12 P11 F11 K11
   cases y63 with
   | true=>
    have P9':Ps w12 B b q src (l+1) g' (-1) v6 NM:=P12
    have hlt':=saw_lt h63
    obtain ⟨z,hz⟩:∃ z,sz+1=z:=⟨_,rfl⟩
    have wz:IntKind.i64.wrap ((sz:Int)+1)=(z:Int):=by rw [IntKind.wrap_i64];omega
    have en:=rep_node0 hs6 1 (z:Int) [i]
    have H9:=hid (And.intro P9' (And.intro F12 (And.intro K12 hz)))
    clear P12 F12 K12 P9' hz
    go_wp2_with fail
    refine (node_push H9.out.1 ⟨7,noBytes,0,0,1,[i],(z:Nat)⟩ H9.out.2.1 HS.out.2.2.1).mono ?_
    rintro e w10 ⟨rfl,v10,p10,k10⟩
    have H10:=hid (And.intro p10 k10)
    clear p10 k10
    go_wp2_with fail
    go_ret
    obtain ⟨hp,hsz,hnn,hsz',_⟩:=HS.out
    obtain ⟨k6,hi,p6,hr,hl,hNM⟩:=HM.out
    subst hNM
    refine HQ.out _ (pcR_rep hx (l2:=l+1) (r:=some (0,some 1)) (by unfold repP;rw [h42,h43,h63];rfl)) _ _ (fun hok=>?_)
    exact rep_fin (hok _ _ _ rfl) HFr.out.1 HFr.out.2 (Nat.lt_of_succ_le (Nat.le_of_eq hi)) hr hl ⟨by omega,by omega⟩ H10.out.1 rfl rfl (by have:=H9.out.2.2.2;rw [Pn.raw,hsz'];omega) (k6.trans (H9.out.2.2.1.trans H10.out.2))
   | false=>
    have P12:Ps w12 B b q src l g' (-1) v6 NM:=P12
    go_wp2_with fail
    refine (takeR_any 123 P12.pr h123).mono ?_
    rintro e w13 ⟨rfl,p13,k13⟩
    have P13:=P12.move k13 (by simp) p13
    have K13:=K12.trans (Pk.of_kp (v:=v6) (q:=q) k13 (by simp))
    have H13:=hid (And.intro P13 K13)
    clear p13 k13 P12 F12 K12 P13 K13
    go_wp2_with fail
    go_ret
    obtain ⟨hp,hsz,hnn,hsz',_⟩:=HS.out
    obtain ⟨k6,hi,p6,hr,hl,hNM⟩:=HM.out
    subst hNM
    refine HQ.out _ (pcR_rep hx (l2:=l) (r:=none) (by unfold repP;rw [h42,h43,h63,h123];rfl)) _ _ (fun hok=>?_)
    exact ⟨i,v6,M,rfl,k6.trans H13.out.2,HFr.out.1,hi,H13.out.1,hr,hl⟩
end
section
variable {w w' w1:World} {B b q:Nat} {src:ByteArray} {k g:Nat} {bad:Int} {v v' v1:Value} {N:List Nw}
theorem saw_not {x y:Int} (h:saw src k x=true) (hne:x≠y):saw src k y=false:=by
 have hk:=saw_lt h
 unfold saw at h ⊢
 rw [dif_pos hk] at h ⊢
 rw [beq_eq_false_iff_ne]
 intro e
 rw [e] at h
 exact hne (by simpa using h.symm:y=x).symm
def bndQ (src:ByteArray) (k:Nat):Except Nat (Nat×Nat×Option Nat):=
 match numP src k with
 | .error pl=>.error pl
 | .ok (l,a)=>if saw src l 44 then (match upP src (l+1) a with
   | .error pl=>.error pl
   | .ok (l2,b)=>.ok (l2,a,b)) else .ok (l,a,some a)
def bndC (src:ByteArray) (r:Except Nat (Nat×Nat×Option Nat)):Except Nat (Nat×Nat×Option Nat):=match r with
 | .error pl=>.error pl
 | .ok (l2,a,b)=>if saw src l2 125 then .ok (l2+1,a,b) else .error l2
theorem bnd_eq:bndP src k=bndC src (bndQ src k):=by
 unfold bndP bndQ
 cases numP src k with
 | error pl=>rfl
 | ok p=>
  obtain ⟨l,a⟩:=p
  dsimp only
  by_cases h:saw src l 44=true
  ·rw [if_pos h,if_pos h]
   cases upP src (l+1) a with
   | error pl=>rfl
   | ok p=>rfl
  ·rw [if_neg h,if_neg h];rfl
theorem num_next {l v:Nat} (h:numP src k=.ok (l,v)):k < l∧l≤k+2:=by
 unfold numP at h
 repeat' split at h
 all_goals first | (cases h;done) | (cases h;omega)
theorem wrap_mulN {a c:Nat} (h:a * c < 9000000000000000000):IntKind.i64.wrap ((a:Int) * (c:Int))=((a * c:Nat):Int):=by
 have e:(a:Int) * (c:Int)=((a * c:Nat):Int):=by push_cast;rfl
 rw [e,IntKind.wrap_i64];omega
theorem rep_bad {M:List Nw} {l2 g2 pl:Nat} {x:Nv} {v10 kv:Value} {w10:World} (hf:Fr w M) (hkv:∀ z,kv.ownBlock=some z→w.heap.size≤z) (hm:M.length≤6 * (src.size - k)) (p10:Ps w10 B b q src l2 g2 (pl:Nat) v10 (N++M++[(x,kv)])) (kk:Pk b q v v10 w w10) :
  RpO src B b q k v N 0 1 w (.error pl) (.returned (.int .i64 (N++M).length)) w10:=by
 have el:(M++[(x,kv)]).length=M.length+1:=by simp
 rw [List.append_assoc] at p10
 exact ⟨(N++M).length,v10,M++[(x,kv)],rfl,kk,hf.push hkv,len_last _ _ _,l2,g2,p10,by rw [el];omega⟩
theorem rep_bnd {l:Nat} (h:saw src l 123=true):repP src l=match bndC src (bndQ src (l+1)) with
  | .error pl=>.error pl
  | .ok (l,a,b)=>.ok (l,some (a,b)):=by
 rw [←bnd_eq]
 unfold repP
 rw [saw_not (y:=42) h (by omega),saw_not (y:=43) h (by omega),saw_not (y:=63) h (by omega),h]
 rfl
theorem rep_e1 {l pl:Nat} (h:saw src l 123=true) (hN:numP src (l+1)=.error pl):repP src l=.error pl:=by
 rw [rep_bnd h];simp [bndQ,bndC,hN]
theorem rep_e2 {l l14 a g':Nat} {x:Pn} {y:Bool} (hx:notEdge x) (h:saw src l 123=true) (hN:numP src (l+1)=.ok (l14,a)) (h44:saw src l14 44=false) (h125:saw src l14 125=y):pcR src (.ok (l,g',x))=if y=true then .ok (l14+1,g',.rep x a (some a)) else .error l14:=by
 cases y with
 | true=>exact pcR_rep hx (r:=some (a,some a)) (by rw [rep_bnd h];simp [bndQ,bndC,hN,h44,h125])
 | false=>exact pcR_bad hx (by rw [rep_bnd h];simp [bndQ,bndC,hN,h44,h125])
theorem rep_e4 {l l14 a:Nat} (h:saw src l 123=true) (hN:numP src (l+1)=.ok (l14,a)) (h44:saw src l14 44=true) (hs:saw src (l14+1) 125=true):repP src l=.ok (l14+2,some (a,none)):=by
 rw [rep_bnd h];simp [bndQ,bndC,upP,hN,h44,hs]
theorem rep_e5 {l l14 a pl:Nat} (h:saw src l 123=true) (hN:numP src (l+1)=.ok (l14,a)) (h44:saw src l14 44=true) (hs:saw src (l14+1) 125=false) (h2:numP src (l14+1)=.error pl):repP src l=.error pl:=by
 rw [rep_bnd h];simp [bndQ,bndC,upP,hN,h44,hs,h2]
theorem rep_e6 {l l14 a l17 a3:Nat} (h:saw src l 123=true) (hN:numP src (l+1)=.ok (l14,a)) (h44:saw src l14 44=true) (hs:saw src (l14+1) 125=false) (h2:numP src (l14+1)=.ok (l17,a3)) (hc:a3 < a∧l17 < src.size∧dig src l17=false):repP src l=.error (l17 - 1):=by
 rw [rep_bnd h];simp [bndQ,bndC,upP,hN,h44,hs,h2,hc]
theorem rep_e7 {l l14 a l17 a3 g':Nat} {x:Pn} {y:Bool} (hx:notEdge x) (h:saw src l 123=true) (hN:numP src (l+1)=.ok (l14,a)) (h44:saw src l14 44=true) (hs:saw src (l14+1) 125=false) (h2:numP src (l14+1)=.ok (l17,a3)) (hc:¬ (a3 < a∧l17 < src.size∧dig src l17=false)) (h125:saw src l17 125=y):pcR src (.ok (l,g',x))=if y=true then .ok (l17+1,g',.rep x a (some a3)) else .error l17:=by
 have eu:upP src (l14+1) a=.ok (l17,some a3):=by unfold upP;rw [hs,h2];dsimp only;rw [if_neg hc];rfl
 have e:bndP src (l+1)=if saw src l17 125 then .ok (l17+1,a,some a3) else .error l17:=by unfold bndP;rw [hN];dsimp only;rw [h44,eu];rfl
 cases y with
 | true=>exact pcR_rep hx (r:=some (a,some a3)) (by rw [rep_bnd h,←bnd_eq,e,h125];rfl)
 | false=>exact pcR_bad hx (by rw [rep_bnd h,←bnd_eq,e,h125];rfl)
theorem z_one {a sz:Nat} {z0:Int} (ha:a≤20) (hraw:sz≤400000000000000000) (wz0:IntKind.i64.wrap ((a:Int) * (sz:Int))=z0):z0=((a * sz:Nat):Int):=by
 rw [←wz0];exact wrap_mulN (Nat.lt_of_le_of_lt (Nat.mul_le_mul ha hraw) (by omega))
theorem z_open {a sz:Nat} {z1 z2:Int} (ha:a≤20) (hraw:sz≤400000000000000000) (wz1:IntKind.i64.wrap (((a:Int)+1) * (sz:Int))=z1) (wz2:IntKind.i64.wrap (z1+1)=z2):z2=(((a+1) * sz+1:Nat):Int):=by
 have hb:=Nat.mul_le_mul (show a+1≤21 by omega) hraw
 rw [show (a:Int)+1=((a+1:Nat):Int) by omega,wrap_mulN (Nat.lt_of_le_of_lt hb (by omega))] at wz1
 obtain ⟨t,ht⟩:∃ t,(a+1) * sz=t:=⟨_,rfl⟩
 rw [ht] at wz1 hb ⊢
 rw [←wz2,←wz1,IntKind.wrap_i64];omega
theorem z_two {a a2 sz:Nat} {z3 z4 z5:Int} (ha2:a2≤20) (hraw:sz≤400000000000000000) (hle:a≤a2) (wz3:IntKind.i64.wrap ((a2:Int) * (sz:Int))=z3) (wz4:IntKind.i64.wrap (z3+(a2:Int))=z4) (wz5:IntKind.i64.wrap (z4 - (a:Int))=z5):z5=((a2 * sz+(a2 - a):Nat):Int):=by
 have hb:=Nat.mul_le_mul ha2 hraw
 rw [wrap_mulN (Nat.lt_of_le_of_lt hb (by omega))] at wz3
 obtain ⟨t,ht⟩:∃ t,a2 * sz=t:=⟨_,rfl⟩
 rw [ht] at wz3 hb ⊢
 have e4:z4=((t+a2:Nat):Int):=by rw [←wz4,←wz3,IntKind.wrap_i64];omega
 rw [←wz5,e4,IntKind.wrap_i64];omega
theorem pk_of {k c:Nat} (h:saw src k (c:Int)=true):pk src k=(c:Int):=by
 rw [saw_pk] at h;simpa using h
theorem pk_not {k c:Nat} (h:saw src k (c:Int)=false):(pk src k != (c:Int))=true:=by
 rw [saw_pk] at h
 unfold bne
 rw [h];rfl
theorem le_of_125 {a a2 l:Nat} (hc:¬ (a2 < a∧l < src.size∧dig src l=false)) (h125:saw src l 125=true):a≤a2:=by
 have hdg:dig src l=false:=by
  have e:pk src l=125:=pk_of (c:=125) h125
  rw [←dig_pk,e];rfl
 exact Nat.not_lt.1 fun hlt=>hc ⟨hlt,saw_lt h125,hdg⟩
end
