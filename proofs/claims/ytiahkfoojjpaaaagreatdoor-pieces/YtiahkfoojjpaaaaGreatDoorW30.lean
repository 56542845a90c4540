/- What the claim needs of: TA KM FOToFZ FT. -/
import Derived.Test.YtiahkfoojjpaaaaGreatDoorW19
import Derived.Laws.IdiomStrings
import Derived.Deep.RegionWith
import Derived.Test.YtiahkfoojjpaaaaGreatDoorW14
import Derived.Test.YtiahkfoojjpaaaaGreatDoorW05
import Derived.Test.YtiahkfoojjpaaaaGreatDoorW29
import Derived.WalkLawsBesides
import Derived.Deep.LoopGhost
import Derived.Test.YtiahkfoojjpaaaaGreatDoorW25
import Derived.Test.YtiahkfoojjpaaaaGreatDoorW00
import Derived.Lib.Bytealg
import Derived.Test.YtiahkfoojjpaaaaGreatDoorRows
import Derived.ProofKit
import Derived.LaidMore
import Derived.Lay
import Derived.OpenShut
import Derived.Stop.Joined
import Derived.Carry
set_option maxRecDepth 100000
set_option maxHeartbeats 16000000
set_option linter.unusedVariables false
set_option linter.unusedSimpArgs false
namespace Go.Proofs.YtiahkfoojjpaaaaGreatDoor
open Go.RowKit
def SmP (text:ByteArray) (p:Pi) (M:Nat->Rl):Prop:=Sm text p.len p.dd p.em M
section
variable {text:ByteArray} {A B C:Rl} {i tk j tk':Nat} {x x':Nat->Int}
theorem uS (h:∀ i tk x j tk' x',A i tk x j tk' x' ↔ B i tk x j tk' x'):A=B:=by
 funext i tk x j tk' x'
 exact propext (h i tk x j tk' x')
theorem Du:qG (qG A B) C=qG A (qG B C):=uS fun _ _ _ _ _ _=>
 ⟨fun ⟨_,_,_,⟨_,_,_,a,b⟩,c⟩=>⟨_,_,_,a,_,_,_,b,c⟩,fun ⟨_,_,_,a,_,_,_,b,c⟩=>⟨_,_,_,⟨_,_,_,a,b⟩,c⟩⟩
theorem mSeq_id:qG A mId=A:=uS fun _ _ _ _ _ _=>
 ⟨fun ⟨_,_,_,a,h1,h2,h3⟩=>by rw [h1,h2,h3];exact a,fun a=>⟨_,_,_,a,rfl,rfl,rfl⟩⟩
theorem id_mSeq:qG mId A=A:=uS fun _ _ _ _ _ _=>
 ⟨fun ⟨_,_,_,⟨h1,h2,h3⟩,a⟩=>by rw [h1,h2,h3] at a;exact a,fun a=>⟨_,_,_,⟨rfl,rfl,rfl⟩,a⟩⟩
def Dv:List (Nat->Rl)->Nat->Rl
 | [],_=>mId
 | m::ms,d=>qG (m d) (Dv ms d)
theorem xm (m:Nat->Rl) (d:Nat):∀ l:List (Nat->Rl),MD (l++[m]) d=qG (m d) (MD l d)
 | []=>by show qG mId (m d)=qG (m d) mId;rw [mSeq_id,id_mSeq]
 | n::l=>by
  show qG (MD (l++[m]) d) (n d)=qG (m d) (qG (MD l d) (n d));rw [xm m d l,Du]
theorem Bz (d:Nat):∀ l:List (Nat->Rl),MD l.reverse d=Dv l d
 | []=>rfl
 | m::l=>by rw [List.reverse_cons,xm,Bz d l];rfl
theorem BJ (l:List It):dA l.reverse=dA l:=by unfold dA;rw [Om,List.sum_reverse]
theorem zQ:∀ l:List It,ddL l.reverse=ddL l
 | []=>rfl
 | p::l=>by
  rw [List.reverse_cons,qQ,zQ l];show max (ddL l) (max p.dd 0)=max p.dd (ddL l);omega
theorem smP_one (m:Nat->Bool):SmP text (Gu m) (mOne text m):=sm_one m
theorem JM (k:Nat) (hk:k=1\/k=2):SmP text (Bp k) (fun _=>Kq text k):=sm_edge k hk
theorem Fj {g:Nat} {p:Pi} {M:Nat->Rl} (h:SmP text p M) (hg0:1<=g) (hg:g<=9):SmP text (jc g p) (fun d=>BB g (M d)):=JL (len:=p.len) h hg0 hg
theorem smP_rep {p:Pi} {M:Nat->Rl} (h:SmP text p M) (least:Nat) (most:Option Nat) (hok:∀ m,most=some m->least<=m):SmP text (lZ p least most) (mRep M least most):=by
 have q:=sm_rep (len:=p.len) h least most hok
 cases most with
 | none=>exact q
 | some m=>exact q
abbrev Mn:=Pi×(Nat->Rl)
theorem smP_row (l:List Mn) (h:∀ p∈l,SmP text p.1 p.2):SmP text (gG (l.map (·.1))) (Dv (l.map (·.2))):=by
 have q:=Mq (text:=text) ((l.map fun p=>(p.1.it,p.2)).reverse) (fun p hp=>by
  obtain ⟨r,hr,rfl⟩:=List.mem_map.1 (List.mem_reverse.1 hp)
  exact h r hr)
 rw [Om,Om,BJ,zQ,N9,N9] at q;have e2:MD (l.map ((·.2) ∘ fun p:Mn=>(p.1.it,p.2))).reverse=Dv (l.map (·.2)):=by
  funext d
  rw [Bz]
  rfl
 rw [e2] at q;unfold SmP gG uR It.pi;rw [N9];exact q
def ME (l:List (Nat->Rl)) (d:Nat):Rl:=fun i tk x j tk' x'=>∃ m∈l,m d i tk x j tk' x'
theorem Hf (d:Nat):∀ (l:List (Nat->Rl)) (B:Rl),mBr l B d i tk x j tk' x' ↔ ME l d i tk x j tk' x'\/B i tk x j tk' x'
 | [],B=>⟨fun h=>.inr h,fun h=>by
  rcases h with ⟨_,hm,_⟩ | h
  .cases hm
  .exact h⟩
 | m::l,B=>by
  show mBr l (mOr (m d) B) d i tk x j tk' x' ↔ _;rw [Hf d l];constructor
  .rintro (⟨m',hm,h⟩ | h | h)
   .exact .inl ⟨m',by simp [hm],h⟩
   .exact .inl ⟨m,by simp,h⟩
   .exact .inr h
  .rintro (⟨m',hm,h⟩ | h)
   .rcases List.mem_cons.1 hm with rfl | hm
    .exact .inr (.inl h)
    .exact .inl ⟨m',hm,h⟩
   .exact .inr (.inr h)
theorem tj {l:List (Nat->Rl)} (hl:l≠[]) (d:Nat):jC l d=ME l d:=by
 cases l with
 | nil=>exact absurd rfl hl
 | cons m l=>
  refine uS fun i tk x j tk' x'=>?_;show mBr l (m d) d i tk x j tk' x' ↔ _;rw [Hf];constructor
  .rintro (⟨m',hm,h⟩ | h)
   .exact ⟨m',by simp [hm],h⟩
   .exact ⟨m,by simp,h⟩
  .rintro ⟨m',hm,h⟩;rcases List.mem_cons.1 hm with rfl | hm
   .exact .inr h
   .exact .inl ⟨m',hm,h⟩
theorem Kr (l:List (Nat->Rl)) (d:Nat):ME l.reverse d=ME l d:=uS fun _ _ _ _ _ _=>
 ⟨fun ⟨m,hm,h⟩=>⟨m,List.mem_reverse.1 hm,h⟩,fun ⟨m,hm,h⟩=>⟨m,List.mem_reverse.2 hm,h⟩⟩
theorem uL (l:List Mn) (hl:l≠[]) (h:∀ p∈l,SmP text p.1 p.2):SmP text (aU (l.map (·.1))) (ME (l.map (·.2))):=by
 have key:∀ L:List (It×(Nat->Rl)),L≠[]->(∀ p∈L,Sm text p.1.len p.1.dd p.1.em p.2)->Sm text (dA (L.map (·.1))+(L.length - 1)) (ddL (L.map (·.1))) (dv (L.map (·.1))) (jC (L.map (·.2))):=fun L hL hh=>by
  cases L with
  | nil=>exact absurd rfl hL
  | cons p L=>exact yB p L hh
 have q:=key ((l.map fun p=>(p.1.it,p.2)).reverse) (by simpa using hl) (fun p hp=>by
  obtain ⟨r,hr,rfl⟩:=List.mem_map.1 (List.mem_reverse.1 hp)
  exact h r hr)
 rw [Om,Om,BJ,zQ,N9,N9,List.length_reverse,NU] at q;have e2:jC (l.map ((·.2) ∘ fun p:Mn=>(p.1.it,p.2))).reverse=ME (l.map (·.2)):=by
  funext d
  rw [tj (by simpa using hl),Kr]
  rfl
 rw [e2] at q;unfold SmP aU dY It.pi;rw [N9,NU];exact q
end
theorem Fa {P:Program} {ops:Array Oper} {o:Oper} {a:Act} {w:World} {K:Act->World->Prop} {Q:Exit->Act->World->Prop} {E:Prop} (hgd:o.guard=none) (sl x:Operand) (t u:TypeId)
  (ho:o.op=.call { callee:=.builtin .append,args:=#[sl,x],argTypes:=#[t,u] })
  (base:Nat) (e:TypeId) (i:TypeInfo) (ht:P.underlying t=some (.slice e)) (hu:P.underlying u=some .string) (hi:P.info? e=some i) (hz:i.zero=some (.int .u8 0)) (hsize:i.size=1) (hby:i.bytes=1)
  (v:Value) (n:Nat) (xs:List Value) (hs:a.eval sl=v) (hown:w.ownsRow base e 1 v n xs) (s:ByteArray) (hx:a.eval x=.string s) (h63:n+s.size<=1000000) (hbase:base<=w.heap.size)
  (h:∀ v' w',w'.ownsRow base e 1 v' (n+s.size) (xs++Lib.byteCells s.data.toList)->w.grownBy w' v.ownBlock->(∀ g,v'.ownBlock=some g->v.ownBlock=some g\/w.heap.size<=g)->K (a.put o.dst v') w') :
  if Region.wanted o (yielded ops a.tmps)=true then Oper.wp P o a w K Q else E:=by
 have hw:Region.wanted o (yielded ops a.tmps)=true:=by simp [Region.wanted,hgd]
 rw [Nj hw];obtain ⟨v',w',hr,h2,h3,h4⟩:=A9 (P:=P) (ty:=o.type) ht hu hi hz hsize hby hown s h63 hbase;unfold Oper.wp;simp [execOp,ho,resolve,invoke,builtin,hs,hx,hr,Result.andThen];exact h v' w' h2 h3 h4
structure Au (lo:Nat) (w:World) (v:Value) (xs:List UInt8) (w':World) (v':Value) (ys:List UInt8):Prop where
 row:w'.ownsRow lo 5 1 v' ys.length (Lib.byteCells ys)
 kp:Kp v.ownBlock.toList w w'
 at_:∀ g,v'.ownBlock=some g->v.ownBlock=some g\/w.heap.size<=g
 lo:lo<=w'.heap.size
theorem Au.refl {lo:Nat} {w:World} {v:Value} {xs:List UInt8} (h:w.ownsRow lo 5 1 v xs.length (Lib.byteCells xs)) (hl:lo<=w.heap.size):Au lo w v xs w v xs:=⟨h,Kp.refl _ _,fun _ e=>.inl e,hl⟩
theorem Au.aj {lo:Nat} {w w1 w2:World} {v v1:Value} {xs ys:List UInt8} (h:Au lo w v xs w1 v1 ys) (k:Kp [] w1 w2):Au lo w v xs w2 v1 ys:=
 ⟨ai h.row (fun p hp=>k.block p (az h.row hp).2 (by simp)),h.kp.trans (k.mono (by simp)),h.at_,Nq h.lo k.size⟩
theorem Au.more {lo:Nat} {w w1 w2:World} {v v1 v2:Value} {xs ys zs:List UInt8} (h:Au lo w v xs w1 v1 ys) (ho:w2.ownsRow lo 5 1 v2 (ys.length+zs.length) (Lib.byteCells ys++Lib.byteCells zs)) (hg:w1.grownBy w2 v1.ownBlock) (hl:∀ g,v2.ownBlock=some g->v1.ownBlock=some g\/w1.heap.size<=g):Au lo w v xs w2 v2 (ys++zs):=by
 have e:Lib.byteCells (ys++zs)=Lib.byteCells ys++Lib.byteCells zs:=by simp [Lib.byteCells]
 have kg:=aR (S:=v1.ownBlock.toList) hg (fun p hp=>by rw [hp];simp);refine ⟨by rw [e,Nn];exact ho,h.kp.past kg (fun x hx=>?_),fun g e=>?_,Nq h.lo hg.size⟩
 .have hx:v1.ownBlock=some x:=by simpa using hx
  rcases h.at_ x hx with r | r
  .exact .inl (by simpa using r)
  .exact .inr r
 .rcases hl g e with r | r
  .exact h.at_ g r
  .exact .inr (Nq h.kp.size r)
theorem Au.cell {lo:Nat} {w w1:World} {v v1:Value} {xs ys:List UInt8} (h:Au lo w v xs w1 v1 ys) {p:Addr} {u:Value} (hc:w.cell? p=some u) (hn:v.ownBlock≠some p.block):w1.cell? p=some u:=
 (h.kp.cell (World.block_lt_of_cell? _ _ hc) (by simpa using hn)).trans hc
def pk (c n:Int):Int:=(if c < 0 then -(c+1) else c) % n
theorem pk_bd (c n:Int) (h:0 < n):0<=pk c n/\pk c n < n:=⟨Int.emod_nonneg _ (by omega),Int.emod_lt_of_pos _ h⟩
theorem F7 {a b:Int} (h:a=b):Ending.returned (.int .i64 a)=.returned (.int .i64 b):=by rw [h]
theorem JY (c n:Int) (h1 : -9223372036854775808<=c) (h2:c<=9223372036854775807) (h3:0 < n) (h4:n<=562949953421312) (w:World) :
  Calls Tryz.prog 15 #[.int .i64 c,.int .i64 n] w fun e w'=>e=.returned (.int .i64 (pk c n))/\w'=w:=by
 by_cases hc:c < 0
 .have hn:¬ n=0:=by omega
  go_enter Tryz.func15,Tryz.ntmps15
  go_wp2;go_ret;refine ⟨?_,rfl⟩;refine F7 ?_;unfold pk;rw [Nj hc,<-Int.neg_tmod,OM (by omega)]
 .have hn:¬ n=0:=by omega
  go_enter Tryz.func15,Tryz.ntmps15
  go_wp2;go_ret;refine ⟨?_,rfl⟩;refine F7 ?_;unfold pk;rw [Nh (by omega)]
structure yq (w:World) (A:Option Addr) (n:Nat) (z:Nat->Int):Prop where
 at_:∀ j,j < n->∃ ad,A=some ad/\w.cell? (ad.add j)=some (.int .i64 (z j))
 bd:∀ j,j < n->-9223372036854775808<=z j/\z j<=9223372036854775807
theorem yq.aj {w w':World} {A:Option Addr} {n:Nat} {z:Nat->Int} (h:yq w A n z) (k:Kp [] w w'):yq w' A n z:=
 ⟨fun j hj=>by
   obtain ⟨ad,e,hc⟩:=h.at_ j hj
   exact ⟨ad,e,(k.cell (World.block_lt_of_cell? _ _ hc) (by simp)).trans hc⟩,h.bd⟩
end Go.Proofs.YtiahkfoojjpaaaaGreatDoor
namespace Go.Proofs.YtiahkfoojjpaaaaGreatDoor
open Go.ChangeShapes Go.WideShapes Go.ChangeAt Go.RowKit
theorem own0:ownKnob Tryz.prog.godebug=none:=by kernel_rfl
theorem wf_i64 {n:Int} (h:(Lit.int .i64 n).wf=true) : -9223372036854775808<=n/\n<=9223372036854775807:=by
 simp only [Lit.wf,OC,decide_eq_true_eq] at h;exact ⟨h.1,h.2⟩
abbrev zq : List (String × DataW Unit) := [("math/bits.deBruijn32tab", Rows.laid_math_bits_deBruijn32tab), ("math/bits.deBruijn64tab", Rows.laid_math_bits_deBruijn64tab), ("internal/strconv.uint64pow10", Rows.laid_internal_strconv_uint64pow10), ("ribbon/pattern.names", Rows.laid_ribbon_pattern_names)]
theorem Tryz.Kz:laidOutB Tryz.prog=true:=by kernel_rfl
theorem Tryz.LK:Tryz.prog.cellsOf 3=1:=by kernel_rfl
theorem nums_of {H:Type} {enc:TypeId×Value->H} {W:World} {base:Nat} {v:Value} {d:DataW H} {p:List MemPlace} (hv:Value.okWide Tryz.prog W .any base 35 v) (h:DataW.Trod enc Tryz.prog W 0 (fun _=>true) true 35 v d p) :
  ∃ A n c z,v=.slice A n c/\n < 9223372036854775808/\yq W A n z:=by
 obtain ⟨a0,len,cap,rfl⟩:=okWide_slice Tryz.underlying35 hv;obtain ⟨fuel,hf⟩:=h;rcases open_ints Tryz.underlying35 Tryz.underlying3 Tryz.LK hf with ⟨hcs,hx⟩ | ⟨a,len',cap',zs,hcs,_,hl,hm,hz,hx,hcell,hwz⟩
 .simp [Value.cells] at hcs;obtain ⟨rfl,rfl,rfl⟩:=hcs;exact ⟨_,_,_,fun _=>0,rfl,by omega,⟨fun j hj=>absurd hj (by omega),fun j hj=>absurd hj (by omega)⟩⟩
 .simp [Value.cells] at hcs;obtain ⟨rfl,rfl,rfl⟩:=hcs;simp only [if_true] at hz;have hm':cap<=9223372036854775807:=by simp only [maxLen] at hm;omega
  refine ⟨_,_,_,fun j=>zs.getD j 0,rfl,by omega,⟨fun j hj=>⟨a,rfl,hcell j (by omega)⟩,fun j hj=>?_⟩⟩;have hj':j < zs.length:=by omega
  exact wf_i64 (hwz _ (by rw [OL,Nk hj'];exact List.getElem_mem hj'))
end Go.Proofs.YtiahkfoojjpaaaaGreatDoor
