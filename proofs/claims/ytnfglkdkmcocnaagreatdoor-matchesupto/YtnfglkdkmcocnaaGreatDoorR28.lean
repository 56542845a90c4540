import Derived.Test.YtnfglkdkmcocnaaGreatDoorR27
import Derived.Test.YtnfglkdkmcocnaaGreatDoorR22
set_option maxRecDepth 100000
set_option maxHeartbeats 16000000
set_option linter.all false
namespace Go.Proofs.YtnfglkdkmcocnaaGreatDoor
open Go.RowKit
inductive Rp (N:List Nw):Nat→Pn→Prop
 | one {i:Nat} {p:Nw} {m:Nat→Bool} (hi:N[i]? = some p) (hk:p.1.kind=1) (hz:p.1.size=1) (hm:∀ c,c < 256→p.1.set c=m c):Rp N i (.one m)
 | edge {i:Nat} {p:Nw} {e:Nat} (hi:N[i]? = some p) (he:e=1∨e=2) (hk:p.1.kind=e+1) (hz:p.1.size=1):Rp N i (.edge e)
 | group {i j:Nat} {p:Nw} {g:Nat} {x:Pn} (hi:N[i]? = some p) (hk:p.1.kind=4) (hg:p.1.num=g) (hs:p.1.kids=[j]) (hj:j < i) (hz:p.1.size=((Pn.group g x).raw:Nat)) (h:Rp N j x):Rp N i (.group g x)
 | rep {i j:Nat} {p:Nw} {x:Pn} {a:Nat} {b:Option Nat} (hi:N[i]? = some p) (hk:p.1.kind=7) (ha:p.1.least=(a:Int)) (hb:p.1.most=(match b with | none=>-1 | some m=>(m:Int))) (hs:p.1.kids=[j]) (hj:j < i) (hz:p.1.size=((Pn.rep x a b).raw:Nat)) (h:Rp N j x):Rp N i (.rep x a b)
 | row {i:Nat} {p:Nw} {xs:List Pn} (hi:N[i]? = some p) (hk:p.1.kind=5) (hl:p.1.kids.length=xs.length) (hj:∀ t j:Nat,p.1.kids[t]? = some j→j < i) (hz:p.1.size=((Pn.row xs).raw:Nat)) (h:∀ (t j:Nat) (x:Pn),p.1.kids[t]? = some j→xs[t]? = some x→Rp N j x):Rp N i (.row xs)
 | brs1 {i:Nat} {x:Pn} (h:Rp N i x):Rp N i (.brs [x])
 | brs {i:Nat} {p:Nw} {xs:List Pn} (hi:N[i]? = some p) (hk:p.1.kind=6) (h2:2≤xs.length) (hl:p.1.kids.length=xs.length) (hj:∀ t j:Nat,p.1.kids[t]? = some j→j < i) (hz:p.1.size=((Pn.brs xs).raw:Nat)) (h:∀ (t j:Nat) (x:Pn),p.1.kids[t]? = some j→xs[t]? = some x→Rp N j x):Rp N i (.brs xs)
theorem get_app {α:Type} {N:List α} (M:List α) {i:Nat} {p:α} (h:N[i]? = some p):(N++M)[i]? = some p:=by
 rw [List.getElem?_append_left (List.getElem?_eq_some_iff.1 h).1];exact h
theorem Rp.app {N:List Nw} {i:Nat} {x:Pn} (h:Rp N i x) (M:List Nw):Rp (N++M) i x:=by
 induction h with
 | one hi hk hz hm=>exact .one (get_app M hi) hk hz hm
 | edge hi he hk hz=>exact .edge (get_app M hi) he hk hz
 | group hi hk hg hs hj hz _ ih=>exact .group (get_app M hi) hk hg hs hj hz ih
 | rep hi hk ha hb hs hj hz _ ih=>exact .rep (get_app M hi) hk ha hb hs hj hz ih
 | row hi hk hl hj hz _ ih=>exact .row (get_app M hi) hk hl hj hz ih
 | brs1 _ ih=>exact .brs1 ih
 | brs hi hk h2 hl hj hz _ ih=>exact .brs (get_app M hi) hk h2 hl hj hz ih
theorem Rp.at_ {N:List Nw} {i:Nat} {x:Pn} (h:Rp N i x):∃ p,N[i]? = some p∧p.1.size=(x.raw:Nat):=by
 induction h with
 | one hi hk hz hm=>exact ⟨_,hi,by rw [hz];rfl⟩
 | edge hi he hk hz=>exact ⟨_,hi,by rw [hz];rfl⟩
 | group hi hk hg hs hj hz _ ih=>exact ⟨_,hi,hz⟩
 | rep hi hk ha hb hs hj hz _ ih=>exact ⟨_,hi,hz⟩
 | row hi hk hl hj hz _ ih=>exact ⟨_,hi,hz⟩
 | @brs1 i x _ ih=>
  obtain ⟨p,h1,h2⟩:=ih
  refine ⟨p,h1,h2.trans ?_⟩
  rw [Pn.raw,rawL,rawL];simp
 | brs hi hk h2 hl hj hz _ ih=>exact ⟨_,hi,hz⟩
def Fr (w:World) (M:List Nw):Prop:=∀ y∈M,∀ x,y.2.ownBlock=some x→w.heap.size≤x
theorem Fr.no (w:World) (x:Nv):Fr w [(x,noK)]:=fun y hy z hz=>by rw [List.mem_singleton.1 hy] at hz;cases hz
theorem Fr.push {w:World} {M:List Nw} {x:Nv} {kv:Value} (h:Fr w M) (hk:∀ z,kv.ownBlock=some z→w.heap.size≤z):Fr w (M++[(x,kv)]):=fun y hy z hz=>by
 rcases List.mem_append.1 hy with e | e
 ·exact h y e z hz
 ·rw [List.mem_singleton.1 e] at hz;exact hk z hz
def Aln (N M:List Nw):Prop:=∀ j,N.length≤j→j < (N++M).length→∃ x,Rp (N++M) j x∧x.Ok∧∀ p,(N++M)[j]? = some p→p.1.kids.length≤1000∧∀ c∈p.1.kids,c < j
theorem Aln.nil (N:List Nw):Aln N []:=fun j h1 h2=>by simp at h2;omega
theorem Aln.one {N:List Nw} {p:Nw} {x:Pn} (h:Rp (N++[p]) N.length x) (ok:x.Ok) (hl:p.1.kids.length≤1000∧∀ c∈p.1.kids,c < N.length):Aln N [p]:=fun j h1 h2=>by
 have e:j=N.length:=by simp at h2;omega
 subst e
 refine ⟨x,h,ok,fun p' hp=>?_⟩
 rw [List.getElem?_append_right (Nat.le_refl _),Nat.sub_self] at hp
 cases hp;exact hl
theorem Aln.push {N M:List Nw} {p:Nw} {x:Pn} (h:Aln N M) (hr:Rp (N++(M++[p])) (N++M).length x) (ok:x.Ok) (hl:p.1.kids.length≤1000∧∀ c∈p.1.kids,c < (N++M).length):Aln N (M++[p]):=fun j h1 h2=>by
 rw [←List.append_assoc] at hr h2 ⊢
 by_cases e:j < (N++M).length
 ·obtain ⟨y,hy,hk,hp⟩:=h j h1 e
  exact ⟨y,hy.app _,hk,fun p' hp'=>hp p' (by rw [List.getElem?_append_left e] at hp';exact hp')⟩
 ·have e:j=(N++M).length:=by simp only [List.length_append,List.length_singleton] at h2 e ⊢;omega
  subst e
  refine ⟨x,hr,ok,fun p' hp=>?_⟩
  rw [List.getElem?_append_right (Nat.le_refl _),Nat.sub_self] at hp
  cases hp;exact hl
theorem Aln.app {N M M2:List Nw} (h:Aln N M) (h2:Aln (N++M) M2):Aln N (M++M2):=fun j h1 h3=>by
 rw [←List.append_assoc] at h3 ⊢
 by_cases e:j < (N++M).length
 ·obtain ⟨y,hy,hk,hp⟩:=h j h1 e
  exact ⟨y,hy.app _,hk,fun p' hp'=>hp p' (by rw [List.getElem?_append_left e] at hp';exact hp')⟩
 ·exact h2 j (by omega) h3
def RpO (src:ByteArray) (B b q k:Nat) (v:Value) (N:List Nw) (cs cf:Nat) (w:World) (r:Except Nat (Nat×Nat×Pn)) (e:Ending) (w':World):Prop:=
 ∃ i v' M,e=.returned (.int .i64 (i:Nat))∧Pk b q v v' w w'∧Fr w M∧i+1=(N++M).length∧match r with
 | .ok (l,g',x)=>Ps w' B b q src l g' (-1) v' (N++M)∧Rp (N++M) i x∧M.length+6 * (src.size - l)≤6 * (src.size - k)+cs∧Aln N M
 | .error pl=>∃ l' g',Ps w' B b q src l' g' (pl:Nat) v' (N++M)∧M.length≤6 * (src.size - k)+cf
theorem len_last {α:Type} (N M:List α) (p:α):(N++M).length+1=(N++(M++[p])).length:=by simp only [List.length_append,List.length_singleton];omega
theorem last_app {α:Type} (N:List α) (p:α):(N++[p])[N.length]? = some p:=by simp
def atomD (src:ByteArray) (n k g:Nat):Except Nat (Nat×Nat×Pn):=
 if saw src k 94 then .ok (k+1,g,.edge 1) else if saw src k 36 then .ok (k+1,g,.edge 2) else atomP src n k g
section
variable {w w' w1:World} {B b q:Nat} {src:ByteArray} {k g:Nat} {bad:Int} {v v' v1:Value} {N:List Nw}
theorem Aln.set (N:List Nw) (m:Nat→Bool):Aln N [(setN m,noK)]:=Aln.one (x:=.one m) (.one (last_app _ _) rfl rfl (fun _ _=>rfl)) (.one m) (by simp)
theorem saw_at (h:k < src.size) (c:Nat):saw src k (c:Int)=decide ((src[k]'h).toNat=c):=by
 unfold saw;rw [dif_pos h,Bool.eq_iff_iff];simp;omega
theorem edge_nodeR (e:Nat) (he:e=1∨e=2):∀ w,(Instr.build 192 #[(0,.int .i64 ((e+1:Nat):Int)),(6,.int .i64 1)]).run Tryz.prog w=.ok (.agg (ndC ⟨e+1,noBytes,0,0,0,[],1⟩ noK).toArray) w:=by
 rcases he with rfl | rfl
 ·exact fun w=>run_build w _ _ _ (by kernel_rfl)
 ·exact fun w=>run_build w _ _ _ (by kernel_rfl)
theorem Ps.ahead (h:Ps w B b q src k g bad v N) (hk:k < src.size):Ps (w.setCell ⟨b,1,none⟩ (.int .i64 ((k+1:Nat):Int))) B b q src (k+1) g bad v N:=
 h.move (Kp.setCell (S:=[b]) _ _ (by simp)) (by simp) (h.pr.goto (k+1) (by omega))
theorem atom_edge (h:Ps w B b q src k g (-1) v N) (hk:k < src.size) {e c:Nat} (hec:e=1∧c=94∨e=2∧c=36) (hc:(src[k]'hk).toNat=c) (hn:N.length≤100000) :
  Calls Tryz.prog 210 #[.pointer (some ⟨b,0,none⟩)] w (RpO src B b q k v N 0 0 w (.ok (k+1,g,.edge e))):=by
 have c0:=h.pr.c0
 have c1:=h.pr.c1
 have f1:=h.pr.free 1
 have hsm:=h.pr.small
 have w4:IntKind.i64.wrap ((k:Int)+1)=((k+1:Nat):Int):=wrap_i64_succ k (k+1) rfl (by omega)
 have P1:=h.ahead hk
 have HP:=hid (And.intro P1 h)
 have fin:∀ (w4:World) (v4:Value),Ps w4 B b q src (k+1) g (-1) v4 (N++[(⟨e+1,noBytes,0,0,0,[],1⟩,noK)])→Pk b q v v4 (w.setCell ⟨b,1,none⟩ (.int .i64 ((k+1:Nat):Int))) w4→RpO src B b q k v N 0 0 w (.ok (k+1,g,.edge e)) (.returned (.int .i64 N.length)) w4:=by
  intro w4 v4 p4 k4
  refine ⟨N.length,v4,_,rfl,(Pk.of_kp (Kp.setCell (S:=[b]) _ _ (by simp)) (by simp)).trans k4,Fr.no _ _,by simp,p4,?_,by show 1+_≤_;omega,Aln.one (x:=.edge e) (.edge (last_app _ _) (by omega) rfl rfl) (.edge (by omega)) (by simp)⟩
  exact .edge (last_app _ _) (by omega) rfl rfl
 have HF:=hid fin
 clear h fin
 rcases hec with ⟨rfl,rfl⟩ | ⟨rfl,rfl⟩
 ·have en:=edge_nodeR 1 (.inl rfl)
  go_enter Tryz.func210,Tryz.ntmps210
  go_wp2_with fail
  refine (node_push P1 ⟨2,noBytes,0,0,0,[],1⟩ (Kd.nil _ _ _) hn).mono ?_
  rintro e w4 ⟨rfl,v',p4,k4⟩
  have P4:=hid (And.intro p4 k4)
  clear p4 k4 P1
  go_wp2_with fail
  go_ret
  exact HF.out _ _ P4.out.1 P4.out.2
 ·have en:=edge_nodeR 2 (.inr rfl)
  go_enter Tryz.func210,Tryz.ntmps210
  go_wp2_with fail
  refine (node_push P1 ⟨3,noBytes,0,0,0,[],1⟩ (Kd.nil _ _ _) hn).mono ?_
  rintro e w4 ⟨rfl,v',p4,k4⟩
  have P4:=hid (And.intro p4 k4)
  clear p4 k4 P1
  go_wp2_with fail
  go_ret
  exact HF.out _ _ P4.out.1 P4.out.2
end
section
variable {w w' w1:World} {B b q:Nat} {src:ByteArray} {k g:Nat} {bad:Int} {v v' v1:Value} {N:List Nw}
theorem Pk.ahead (b q k:Nat) (v:Value) (w:World):Pk b q v v w (w.setCell ⟨b,1,none⟩ (.int .i64 ((k+1:Nat):Int))):=Pk.of_kp (Kp.setCell (S:=[b]) _ _ (by simp)) (by simp)
def clsR (g:Nat) (r:Except Nat (Nat×(Nat→Bool))):Except Nat (Nat×Nat×Pn):=match r with
 | .error pl=>.error pl
 | .ok (l,m)=>.ok (l,g,.one m)
theorem atom_classR (h:Ps w B b q src k g (-1) v N) (hk:k < src.size) (hc:(src[k]'hk).toNat=91) (hn:N.length≤100000) :
  Calls Tryz.prog 210 #[.pointer (some ⟨b,0,none⟩)] w (RpO src B b q k v N 0 1 w (clsR g (classP src src.size (k+1)))):=by
 have c0:=h.pr.c0
 have c1:=h.pr.c1
 have f1:=h.pr.free 1
 have hsm:=h.pr.small
 have w4:IntKind.i64.wrap ((k:Int)+1)=((k+1:Nat):Int):=wrap_i64_succ k (k+1) rfl (by omega)
 have P1:=h.ahead hk
 have fin:∀ (e:Ending) (wx:World),ClPost src B b q (k+1) g v N (w.setCell ⟨b,1,none⟩ (.int .i64 ((k+1:Nat):Int))) e wx→RpO src B b q k v N 0 1 w (clsR g (classP src src.size (k+1))) e wx:=by
  rintro e wx ⟨rfl,v',kk,hm⟩
  have hg:=class_g (src:=src) (n:=src.size) (k:=k+1) (by omega) (by omega)
  cases hr:classP src src.size (k+1) with
  | error pl=>
   rw [hr] at hm
   obtain ⟨k',m,hm⟩:=hm
   exact ⟨N.length,v',_,rfl,(Pk.ahead b q k v w).trans kk,Fr.no _ _,by simp,k',g,hm,by show 1≤_;omega⟩
  | ok p=>
   obtain ⟨l,m⟩:=p
   rw [hr] at hm hg
   exact ⟨N.length,v',_,rfl,(Pk.ahead b q k v w).trans kk,Fr.no _ _,by simp,hm,.one (last_app _ _) rfl rfl (fun _ _=>rfl),by show 1+_≤_;omega,Aln.set _ _⟩
 have HF:=hid fin
 clear h fin
 go_enter Tryz.func210,Tryz.ntmps210
 go_wp2_with fail
 refine (class_any P1 (by omega) hn).mono ?_
 rintro e w4 h4
 have hf:=HF.out _ _ h4
 obtain ⟨rfl,_⟩:=h4
 have H4:=hid hf
 clear hf P1
 go_wp2_with fail
 go_ret
 exact H4.out
def bytR (g:Nat) (r:Except Nat (Nat×Nat)):Except Nat (Nat×Nat×Pn):=match r with
 | .error pl=>.error pl
 | .ok (l,x)=>.ok (l,g,.one (span noBytes x (x+1)))
theorem more_span (x:Nat):more noBytes x=span noBytes x (x+1):=by rw [←span_more noBytes x x (Nat.le_refl _),span_none]
theorem esc_next {of:ByteArray} {l x:Nat} (he:escP src of k=.ok (l,x)):l=k+1:=by
 unfold escP at he
 repeat' split at he
 all_goals first | (cases he;done) | (cases he;rfl)
theorem atom_escR (h:Ps w B b q src k g (-1) v N) (hk:k < src.size) (hc:(src[k]'hk).toNat=92) (hn:N.length≤100000) :
  Calls Tryz.prog 210 #[.pointer (some ⟨b,0,none⟩)] w (RpO src B b q k v N 0 1 w (bytR g (escP src escaped (k+1)))):=by
 have c0:=h.pr.c0
 have c1:=h.pr.c1
 have f1:=h.pr.free 1
 have hsm:=h.pr.small
 have w4:IntKind.i64.wrap ((k:Int)+1)=((k+1:Nat):Int):=wrap_i64_succ k (k+1) rfl (by omega)
 have P1:=h.ahead hk
 obtain ⟨W1,hW1⟩:∃ W1,W1=w.setCell ⟨b,1,none⟩ (.int .i64 ((k+1:Nat):Int)):=⟨_,rfl⟩
 have hof:escaped.size≤1000:=by decide
 have K1:=hid (Pk.ahead b q k v w)
 cases hr:escP src escaped (k+1) with
 | error pl=>
  clear h
  go_enter Tryz.func210,Tryz.ntmps210
  go_wp2_with fail
  refine (escaped_err P1.pr (by omega) hof hr).mono ?_
  rintro e w4 ⟨rfl,p4,k4⟩
  have P4:=P1.move k4 (by simp) p4
  have H4:=hid k4
  clear k4 p4 P1
  go_wp2_with fail
  refine (one_any (c:=0) P4 (by omega) hn).mono ?_
  rintro e w5 ⟨rfl,v5,p5,k5⟩
  have H5:=hid (And.intro p5 k5)
  clear p5 k5 P4
  go_wp2_with fail
  go_ret
  exact ⟨N.length,v5,_,rfl,K1.out.trans ((Pk.of_kp H4.out (by simp)).trans H5.out.2),Fr.no _ _,by simp,k+1,g,H5.out.1,by show 1≤_;omega⟩
 | ok p=>
  obtain ⟨l,x⟩:=p
  have hx:=esc_256 hr
  have hl:=esc_next hr
  clear h
  go_enter Tryz.func210,Tryz.ntmps210
  go_wp2_with fail
  refine (escaped_ok P1.pr hof hr).mono ?_
  rintro e w4 ⟨rfl,p4,k4⟩
  have P4:=P1.move k4 (by simp) p4
  have H4:=hid k4
  clear k4 p4 P1
  go_wp2_with fail
  refine (one_any P4 hx hn).mono ?_
  rintro e w5 ⟨rfl,v5,p5,k5⟩
  have H5:=hid (And.intro p5 k5)
  clear p5 k5 P4
  go_wp2_with fail
  go_ret
  exact ⟨N.length,v5,_,rfl,K1.out.trans ((Pk.of_kp H4.out (by simp)).trans H5.out.2),Fr.no _ _,by simp,H5.out.1,.one (last_app _ _) rfl rfl (fun _ _=>by rw [more_span]),by show 1+_≤_;omega,Aln.set _ _⟩
def bars:ByteArray:=⟨#[10,42,43,63,123,125,93]⟩
theorem atom_byteR (h:Ps w B b q src k g (-1) v N) (hk:k < src.size) {c:Nat} (hc:(src[k]'hk).toNat=c) (hcs:(c == 40)=false∧(c == 46)=false∧(c == 94)=false∧(c == 36)=false∧(c == 91)=false∧(c == 92)=false) {y:Bool} (hy:mem (c:Int) bars=y) (hn:N.length≤100000) :
  Calls Tryz.prog 210 #[.pointer (some ⟨b,0,none⟩)] w (RpO src B b q k v N 0 1 w (bytR g (if y=true then .error k else .ok (k+1,c)))):=by
 have c0:=h.pr.c0
 have c1:=h.pr.c1
 have f1:=h.pr.free 1
 have hsm:=h.pr.small
 have w4:IntKind.i64.wrap ((k:Int)+1)=((k+1:Nat):Int):=wrap_i64_succ k (k+1) rfl (by omega)
 have hc256:c < 256:=by rw [←hc];exact UInt8.toNat_lt _
 have P1:=h.ahead hk
 have K1:=hid (Pk.ahead b q k v w)
 have cI:∀ d:Nat,(c == d)=false→((c:Int) == (d:Int))=false:=fun d hd=>by
  rw [beq_eq_false_iff_ne] at hd ⊢;omega
 have e1:=cI 40 hcs.1
 have e2:=cI 46 hcs.2.1
 have e3:=cI 94 hcs.2.2.1
 have e4:=cI 36 hcs.2.2.2.1
 have e5:=cI 91 hcs.2.2.2.2.1
 have e6:=cI 92 hcs.2.2.2.2.2
 have HC:=hid hcs
 clear hcs cI h
 cases y with
 | true=>
  go_enter Tryz.func210,Tryz.ntmps210
  go_wp2_with fail
  refine (member_v (of:=bars) (by decide) hy).mono ?_
  rintro e w4 ⟨rfl,rfl⟩
  go_wp2_with fail
  refine (failR_first P1.pr k (by omega)).mono ?_
  rintro e w4 ⟨rfl,p4,k4⟩
  have P4:=P1.move k4 (by simp) p4
  have H4:=hid k4
  clear k4 p4 P1
  go_wp2_with fail
  refine (one_any P4 hc256 hn).mono ?_
  rintro e w5 ⟨rfl,v5,p5,k5⟩
  have H5:=hid (And.intro p5 k5)
  clear p5 k5 P4
  go_wp2_with fail
  go_ret
  exact ⟨N.length,v5,_,rfl,K1.out.trans ((Pk.of_kp H4.out (by simp)).trans H5.out.2),Fr.no _ _,by simp,k+1,g,H5.out.1,by show 1≤_;omega⟩
 | false=>
  go_enter Tryz.func210,Tryz.ntmps210
  go_wp2_with fail
  refine (member_v (of:=bars) (by decide) hy).mono ?_
  rintro e w4 ⟨rfl,rfl⟩
  go_wp2_with fail
  refine (one_any P1 hc256 hn).mono ?_
  rintro e w5 ⟨rfl,v5,p5,k5⟩
  have H5:=hid (And.intro p5 k5)
  clear p5 k5 P1
  go_wp2_with fail
  go_ret
  exact ⟨N.length,v5,_,rfl,K1.out.trans H5.out.2,Fr.no _ _,by simp,H5.out.1,.one (last_app _ _) rfl rfl (fun _ _=>by rw [more_span]),by show 1+_≤_;omega,Aln.set _ _⟩
end
section
variable {w w' w1:World} {B b q:Nat} {src:ByteArray} {k g:Nat} {bad:Int} {v v' v1:Value} {N:List Nw}
theorem Kd.fresh (w:World) {B j:Nat} {v:Value} (hB:B≤w.heap.size) (hv:v.ownBlock≠some w.heap.size):Kd (w.alloc (.cells #[.int .i64 (j:Nat)] 3)) B v (.slice (some ⟨w.heap.size,0,none⟩) 1 1) [j]:=by
 refine ⟨⟨rfl,.inr ⟨w.heap.size,1,#[.int .i64 (j:Nat)],rfl,hB,?_,Nat.le_refl _,by decide,rfl,rfl⟩⟩,fun g hg e=>?_⟩
 ·show (w.heap.push _)[w.heap.size]? = _
  exact Array.getElem?_push_size
 ·cases hg;exact hv e
theorem Ps.groups (h:Ps w B b q src k g bad v N) (g':Nat):Ps (w.setCell ⟨q,1,none⟩ (.int .i64 g')) B b q src k g' bad v N:=by
 have kp:Kp [q] w (w.setCell ⟨q,1,none⟩ (.int .i64 g')):=Kp.setCell _ _ (by simp)
 have hb:b∉[q]:=by simpa using h.ne
 exact ⟨h.pr.keep kp hb,by rw [cell_other _ (by simp)];exact h.q0,cell_same _ h.q1,fun i=>by simpa using h.fq i,own_kp h.own kp fun g hg hm=>by
  have:=(h.own.lt g hg).1;have:=h.hq;have e:g=q:=by simpa using hm
  omega,fun x hx=>(h.kd x hx).keep kp fun y hy=>by rw [List.mem_singleton.1 hy];exact h.hq,h.hb,h.hq,h.ne,Nat.le_trans h.hB kp.size⟩
theorem Ps.vlt (h:Ps w B b q src k g bad v N):v.ownBlock≠some w.heap.size:=fun e=>by have:=(h.own.lt _ e).2;omega
theorem group_nodeR (n gb:Nat) (z:Int) (js:List Nat):∀ w,(Instr.build 192 #[(0,.int .i64 4),(2,.int .i64 n),(5,.slice (some ⟨gb,0,none⟩) 1 1),(6,.int .i64 z)]).run Tryz.prog w=.ok (.agg (ndC ⟨4,noBytes,n,0,0,js,z⟩ (.slice (some ⟨gb,0,none⟩) 1 1)).toArray) w:=fun w=>run_build w _ _ _ (by kernel_rfl)
theorem zero_cellsR:Tryz.zeroCells192=(ndC ⟨0,noBytes,0,0,0,[],0⟩ noK).toArray:=by kernel_rfl
theorem atom_full (h:Ps w B b q src k 9 (-1) v N) (hk:k < src.size) (hc:(src[k]'hk).toNat=40) (hn:N.length≤100000) :
  Calls Tryz.prog 210 #[.pointer (some ⟨b,0,none⟩)] w (RpO src B b q k v N 0 1 w (.error k)):=by
 have c0:=h.pr.c0
 have c1:=h.pr.c1
 have c3:=h.pr.c3
 have q1:=h.q1
 have f1:=h.pr.free 1
 have hsm:=h.pr.small
 have w4:IntKind.i64.wrap ((k:Int)+1)=((k+1:Nat):Int):=wrap_i64_succ k (k+1) rfl (by omega)
 have P1:=h.ahead hk
 have K1:=hid (Pk.ahead b q k v w)
 have hne:b≠q:=h.ne
 clear h
 go_enter Tryz.func210,Tryz.ntmps210
 go_wp2_with fail
 refine (failR_first P1.pr k (by omega)).mono ?_
 rintro e w4 ⟨rfl,p4,k4⟩
 have P4:=P1.move k4 (by simp) p4
 have H4:=hid k4
 clear k4 p4 P1
 go_wp2_with fail
 rw [zero_cellsR]
 refine (node_push P4 ⟨0,noBytes,0,0,0,[],0⟩ (Kd.nil _ _ _) hn).mono ?_
 rintro e w5 ⟨rfl,v5,p5,k5⟩
 have H5:=hid (And.intro p5 k5)
 clear p5 k5 P4
 go_wp2_with fail
 go_ret
 exact ⟨N.length,v5,_,rfl,K1.out.trans ((Pk.of_kp H4.out (by simp)).trans H5.out.2),Fr.no _ _,by simp,k+1,9,H5.out.1,by show 1≤_;omega⟩
def grpR (src:ByteArray) (g:Nat) (R:Except Nat (Nat×Nat×Pn)):Except Nat (Nat×Nat×Pn):=match R with
 | .error pl=>.error pl
 | .ok (l,g',x)=>if saw src l 41 then .ok (l+1,g',.group (g+1) x) else .error l
def grpS (src:ByteArray) (R:Except Nat (Nat×Nat×Pn)) (l g2:Nat) (bd:Int):Prop:=match R with
 | .error pl=>bd=(pl:Nat)
 | .ok (l0,g',_)=>if saw src l0 41 then g2=g'∧l=l0+1∧bd = -1 else bd=(l0:Nat)
def anyM (src:ByteArray) (B b q k:Nat) (N M:List Nw) (i:Nat) (v':Value) (w':World) (cs cf:Nat) (r:Except Nat (Nat×Nat×Pn)):Prop:=match r with
 | .ok (l,g',x)=>Ps w' B b q src l g' (-1) v' (N++M)∧Rp (N++M) i x∧M.length+6 * (src.size - l)≤6 * (src.size - k)+cs∧Aln N M
 | .error pl=>∃ l' g',Ps w' B b q src l' g' (pl:Nat) v' (N++M)∧M.length≤6 * (src.size - k)+cf
theorem anyM.len {M:List Nw} {i:Nat} {cs cf:Nat} {r:Except Nat (Nat×Nat×Pn)} (h:anyM src B b q k N M i v' w' cs cf r) (hcs:cs≤cf):M.length≤6 * (src.size - k)+cf:=by
 unfold anyM at h
 split at h
 ·have:=h.2.2.1;omega
 ·obtain ⟨_,_,_,h⟩:=h;exact h
theorem grp_fin {R:Except Nat (Nat×Nat×Pn)} {M:List Nw} {i l2 g2:Nat} {bd z:Int} {v6 v10 kv:Value} {w6 w10:World} (hk:k < src.size) (hg9:g < 9) (hO:∀ l g' x,R=.ok (l,g',x)→x.Ok) (hf:Fr w M) (hkv:∀ z,kv.ownBlock=some z→w.heap.size≤z) (hi:i < (N++M).length) (hm:anyM src B b q (k+1) N M i v6 w6 2 4 R) (hs:grpS src R l2 g2 bd)
  (p10:Ps w10 B b q src l2 g2 bd v10 (N++M++[(⟨4,noBytes,g+1,0,0,[i],z⟩,kv)])) (hz:∀ l g' x,R=.ok (l,g',x)→z=((x.raw+2:Nat):Int)) (kk:Pk b q v v10 w w10):RpO src B b q k v N 0 1 w (grpR src g R) (.returned (.int .i64 (N++M).length)) w10:=by
 have hl:=hm.len (by omega)
 have e1:N++M++[((⟨4,noBytes,g+1,0,0,[i],z⟩:Nv),kv)]=N++(M++[(⟨4,noBytes,g+1,0,0,[i],z⟩,kv)]):=List.append_assoc _ _ _
 have el:(M++[((⟨4,noBytes,g+1,0,0,[i],z⟩:Nv),kv)]).length=M.length+1:=by simp
 rw [e1] at p10
 refine ⟨(N++M).length,v10,M++[(⟨4,noBytes,g+1,0,0,[i],z⟩,kv)],rfl,kk,hf.push hkv,len_last _ _ _,?_⟩
 unfold grpR
 unfold grpS at hs
 unfold anyM at hm
 cases R with
 | error pl=>
  dsimp only at hs ⊢
  exact ⟨l2,g2,by rw [←hs];exact p10,by rw [el];omega⟩
 | ok p=>
  obtain ⟨l,g',x⟩:=p
  dsimp only at hs hm ⊢
  by_cases h41:saw src l 41=true
  ·rw [if_pos h41] at hs ⊢
   obtain ⟨rfl,rfl,rfl⟩:=hs
   have hz:=hz _ _ _ rfl
   suffices hR:Rp (N++(M++[(⟨4,noBytes,g+1,0,0,[i],z⟩,kv)])) (N++M).length (.group (g+1) x) from ⟨p10,hR,by have:=hm.2.2.1;rw [el];omega,hm.2.2.2.push hR (.group (by omega) (by omega) (hO _ _ _ rfl)) ⟨by simp,fun c hc=>by rw [List.mem_singleton.1 hc];exact hi⟩⟩
   refine .group (j:=i) (p:=(⟨4,noBytes,g+1,0,0,[i],z⟩,kv)) ?_ rfl rfl rfl hi (by rw [Pn.raw];exact hz) ?_
   ·rw [←List.append_assoc];exact last_app _ _
   ·rw [←List.append_assoc];exact hm.2.1.app _
  ·rw [if_neg h41] at hs ⊢
   exact ⟨l2,g2,by rw [←hs];exact p10,by rw [el];omega⟩
theorem atom_groupR (h:Ps w B b q src k g (-1) v N) (hk:k < src.size) (hg:g < 9) (hc:(src[k]'hk).toNat=40) (hn:N.length+6 * (src.size - k)≤90000) {R:Except Nat (Nat×Nat×Pn)}
  (hO:∀ l g' x,R=.ok (l,g',x)→x.Ok) (hR:∀ l g' x,R=.ok (l,g',x)→x.raw≤4000000000000000000)
  (hB:∀ w1,Ps w1 B b q src (k+1) (g+1) (-1) v N→Calls Tryz.prog 66 #[.pointer (some ⟨b,0,none⟩)] w1 (RpO src B b q (k+1) v N 2 4 w1 R)) :
  Calls Tryz.prog 210 #[.pointer (some ⟨b,0,none⟩)] w (RpO src B b q k v N 0 1 w (grpR src g R)):=by
 have c0:=h.pr.c0
 have c1:=h.pr.c1
 have c3:=h.pr.c3
 have q1:=h.q1
 have f1:=h.pr.free 1
 have fq1:=h.fq 1
 have hsm:=h.pr.small
 have w4:IntKind.i64.wrap ((k:Int)+1)=((k+1:Nat):Int):=wrap_i64_succ k (k+1) rfl (by omega)
 have w5:IntKind.i64.wrap ((g:Int)+1)=((g+1:Nat):Int):=wrap_i64_succ g (g+1) rfl (by omega)
 have g9:((g:Int) == 9)=false:=by rw [beq_eq_false_iff_ne];omega
 have P1:=(h.ahead hk).groups (g+1)
 have K1:Pk b q v v w _:=(Pk.ahead b q k v w).trans (Pk.of_kp (Kp.setCell (S:=[q]) (w.setCell ⟨b,1,none⟩ (.int .i64 ((k+1:Nat):Int))) (p:=⟨q,1,none⟩) (.int .i64 ((g+1:Nat):Int)) (by simp)) (by simp))
 have HK:=hid K1
 have hne:b≠q:=h.ne
 have HR:=hid hR
 have HOk:=hid hO
 clear hO
 have hB':=hB _ P1
 have HB:=hid hB'
 clear h hR hB hB' K1
 go_enter Tryz.func210,Tryz.ntmps210
 go_wp2_with fail
 refine HB.out.mono ?_
 rintro e w6 ⟨i,v6,M,rfl,k6,hf,hi,hm⟩
 have hm:anyM src B b q (k+1) N M i v6 w6 2 4 R:=hm
 have hi:i < (N++M).length:=by omega
 have hl:=hm.len (by omega)
 obtain ⟨NM,hNM⟩:∃ NM,NM=N++M:=⟨_,rfl⟩
 obtain ⟨p,hp⟩:∃ p,NM[i]? = some p:=by rw [hNM];exact ⟨_,List.getElem?_eq_getElem hi⟩
 have hnn:NM.length≤100000:=by rw [hNM,List.length_append];omega
 have HFr:=hid hf
 clear hf
 have HM:=hid (And.intro hm (And.intro hi (And.intro k6 (And.intro hp (And.intro hnn hNM)))))
 clear hm hi k6 hp hl hnn c0 c1 c3 q1 f1 fq1 P1 hNM
 obtain ⟨z,hz⟩:∃ z,IntKind.i64.wrap (p.1.size+2)=z:=⟨_,rfl⟩
 have hzz:∀ l g' x,R=.ok (l,g',x)→z=((x.raw+2:Nat):Int):=by
  intro l g' x e
  have hr:=HR.out _ _ _ e
  obtain ⟨hm,_,_,hp,_,hNM⟩:=HM.out
  rw [e] at hm
  obtain ⟨p',e1,e2⟩:=Rp.at_ hm.2.1
  rw [hNM] at hp
  rw [hp] at e1
  cases e1
  rw [←hz,e2,IntKind.wrap_i64];omega
 have HZ:=hid hzz
 clear hzz
 have tail:∀ (w9:World) (l2 g2:Nat) (bd:Int),Ps w9 B b q src l2 g2 bd v6 NM→Kp [b] w6 w9→grpS src R l2 g2 bd→∀ w10 v10,Ps w10 B b q src l2 g2 bd v10 (NM++[(⟨4,noBytes,g+1,0,0,[i],z⟩,.slice (some ⟨w9.heap.size,0,none⟩) 1 1)])→Pk b q v6 v10 (w9.alloc (.cells #[.int .i64 (i:Nat)] 3)) w10→RpO src B b q k v N 0 1 w (grpR src g R) (.returned (.int .i64 NM.length)) w10:=by
  intro w9 l2 g2 bd _ k9 hs w10 v10 p10 k10
  obtain ⟨hm,hi,k6,hp,hnn,hNM⟩:=HM.out
  subst hNM
  have hs1:=HK.out.kp.size
  have hs2:=k6.kp.size
  have hs3:=k9.size
  exact grp_fin hk hg HOk.out (fun y hy z hz=>Nat.le_trans hs1 (HFr.out y hy z hz)) (fun z hz=>by have e:w9.heap.size=z:=Option.some.inj hz;omega) hi hm hs p10 HZ.out (HK.out.trans (k6.trans ((Pk.of_kp k9 (by simp)).trans ((Pk.of_kp (S:=[]) (Kp.alloc _ _ _) (by simp)).trans k10))))
 have HT:=hid tail
 clear tail
 cases R with
 | error pl=>
  obtain ⟨l6,g6,p6,_⟩:=HM.out.1
  rw [←HM.out.2.2.2.2.2] at p6
  go_wp2_with fail
  refine (okR_any p6.pr (v:=false) (by simp)).mono ?_
  rintro e w7 ⟨rfl,rfl⟩
  have c1:=p6.pr.c1
  go_wp2_with fail
  refine (failR_late p6.pr _ (by omega)).mono ?_
  rintro e w8 ⟨rfl,rfl⟩
  have T:=HT.out w8 l6 g6 _ p6 (Kp.refl _ _) rfl
  have P9:=p6.keep (Kp.alloc [] w8 (.cells #[.int .i64 (i:Nat)] 3))
  have F9:=Kd.fresh w8 (j:=i) p6.hB p6.vlt
  have HH:=hid (And.intro T (And.intro P9 F9))
  have en:=group_nodeR (g+1) w8.heap.size z [i]
  clear T P9 F9 p6 c1
  go_wp2_with fail
  refine (sizeOf_any HH.out.2.1 HM.out.2.2.2.1 HM.out.2.2.2.2.1).mono ?_
  rintro e w19 ⟨rfl,rfl⟩
  go_wp2_with fail
  refine (node_push HH.out.2.1 ⟨4,noBytes,g+1,0,0,[i],z⟩ HH.out.2.2 HM.out.2.2.2.2.1).mono ?_
  rintro e w10 ⟨rfl,v10,p10,k10⟩
  have H10:=hid (HH.out.1 _ _ p10 k10)
  clear p10 k10
  go_wp2_with fail
  go_ret
  exact H10.out
 | ok p=>
  obtain ⟨l6,g6,x6⟩:=p
  obtain ⟨p6,_,_⟩:=HM.out.1
  rw [←HM.out.2.2.2.2.2] at p6
  obtain ⟨y41,h41⟩:∃ y,saw src l6 41=y:=⟨_,rfl⟩
  go_wp2_with fail
  refine (okR_any p6.pr (v:=true) (by simp)).mono ?_
  rintro e w7 ⟨rfl,rfl⟩
  go_wp2_with fail
  refine (takeR_any 41 p6.pr h41).mono ?_
  rintro e w8 ⟨rfl,p8,k8⟩
  cases y41 with
  | true=>
   have p8:Pr w8 b q src (l6+1) (-1):=p8
   have p6:=p6.move k8 (by simp) p8
   have T:=HT.out w8 (l6+1) g6 _ p6 k8 (by unfold grpS;dsimp only;rw [h41,if_pos rfl];exact ⟨rfl,rfl,rfl⟩)
   clear p8 k8
   have P9:=p6.keep (Kp.alloc [] w8 (.cells #[.int .i64 (i:Nat)] 3))
   have F9:=Kd.fresh w8 (j:=i) p6.hB p6.vlt
   have HH:=hid (And.intro T (And.intro P9 F9))
   have en:=group_nodeR (g+1) w8.heap.size z [i]
   clear T P9 F9 p6
   go_wp2_with fail
   refine (sizeOf_any HH.out.2.1 HM.out.2.2.2.1 HM.out.2.2.2.2.1).mono ?_
   rintro e w19 ⟨rfl,rfl⟩
   go_wp2_with fail
   refine (node_push HH.out.2.1 ⟨4,noBytes,g+1,0,0,[i],z⟩ HH.out.2.2 HM.out.2.2.2.2.1).mono ?_
   rintro e w10 ⟨rfl,v10,p10,k10⟩
   have H10:=hid (HH.out.1 _ _ p10 k10)
   clear p10 k10
   go_wp2_with fail
   go_ret
   exact H10.out
  | false=>
   have p8:Pr w8 b q src l6 (-1):=p8
   have c1:=p8.c1
   have P7:=p6.move k8 (by simp) p8
   clear p6
   go_wp2_with fail
   refine (failR_first p8 l6 (by omega)).mono ?_
   rintro e w9 ⟨rfl,p9,k9⟩
   have p6:=P7.move k9 (by simp) p9
   have T:=HT.out w9 l6 g6 _ p6 (k8.trans k9) (by unfold grpS;dsimp only;rw [h41,if_neg (by simp)])
   clear p8 k8 p9 k9 P7
   have P9:=p6.keep (Kp.alloc [] w9 (.cells #[.int .i64 (i:Nat)] 3))
   have F9:=Kd.fresh w9 (j:=i) p6.hB p6.vlt
   have HH:=hid (And.intro T (And.intro P9 F9))
   have en:=group_nodeR (g+1) w9.heap.size z [i]
   clear T P9 F9 p6 c1
   go_wp2_with fail
   refine (sizeOf_any HH.out.2.1 HM.out.2.2.2.1 HM.out.2.2.2.2.1).mono ?_
   rintro e w19 ⟨rfl,rfl⟩
   go_wp2_with fail
   refine (node_push HH.out.2.1 ⟨4,noBytes,g+1,0,0,[i],z⟩ HH.out.2.2 HM.out.2.2.2.2.1).mono ?_
   rintro e w10 ⟨rfl,v10,p10,k10⟩
   have H10:=hid (HH.out.1 _ _ p10 k10)
   clear p10 k10
   go_wp2_with fail
   go_ret
   exact H10.out
end
