/- What the claim needs of: TA HE KM FOToFZ. -/
import Derived.Test.YtiahkfoojjpaaaaGreatDoorW17
import Derived.Laws.IdiomStrings
import Derived.Deep.RegionWith
import Derived.Test.YtiahkfoojjpaaaaGreatDoorW24
import Derived.Test.YtiahkfoojjpaaaaGreatDoorW12
import Derived.Test.YtiahkfoojjpaaaaGreatDoorW05
import Derived.Test.YtiahkfoojjpaaaaGreatDoorW25
import Derived.WalkLawsBesides
import Derived.Deep.LoopGhost
import Derived.Test.YtiahkfoojjpaaaaGreatDoorW23
import Derived.Test.YtiahkfoojjpaaaaGreatDoorW22
import Derived.Test.YtiahkfoojjpaaaaGreatDoorW00
import Derived.Lib.Bytealg
set_option maxRecDepth 100000
set_option maxHeartbeats 16000000
set_option linter.unusedVariables false
set_option linter.unusedSimpArgs false
namespace Go.Proofs.YtiahkfoojjpaaaaGreatDoor
open Go.RowKit
def SmP (text:ByteArray) (p:Pi) (M:Nat->Rl):Prop:=Sm text p.len p.dd p.em M
section
variable {text:ByteArray} {A B C:Rl} {i tk j tk':Nat} {x x':Nat->Int}
theorem xo (h:∀ i tk x j tk' x',A i tk x j tk' x' ↔ B i tk x j tk' x'):A=B:=by
 funext i tk x j tk' x'
 exact propext (h i tk x j tk' x')
theorem D5:qQ (qQ A B) C=qQ A (qQ B C):=xo fun _ _ _ _ _ _=>
 ⟨fun ⟨_,_,_,⟨_,_,_,a,b⟩,c⟩=>⟨_,_,_,a,_,_,_,b,c⟩,fun ⟨_,_,_,a,_,_,_,b,c⟩=>⟨_,_,_,⟨_,_,_,a,b⟩,c⟩⟩
theorem mSeq_id:qQ A mId=A:=xo fun _ _ _ _ _ _=>
 ⟨fun ⟨_,_,_,a,h1,h2,h3⟩=>by rw [h1,h2,h3];exact a,fun a=>⟨_,_,_,a,rfl,rfl,rfl⟩⟩
theorem id_mSeq:qQ mId A=A:=xo fun _ _ _ _ _ _=>
 ⟨fun ⟨_,_,_,⟨h1,h2,h3⟩,a⟩=>by rw [h1,h2,h3] at a;exact a,fun a=>⟨_,_,_,⟨rfl,rfl,rfl⟩,a⟩⟩
def D6:List (Nat->Rl)->Nat->Rl
 | [],_=>mId
 | m::ms,d=>qQ (m d) (D6 ms d)
theorem xL (m:Nat->Rl) (d:Nat):∀ l:List (Nat->Rl),Nq (l++[m]) d=qQ (m d) (Nq l d)
 | []=>by show qQ mId (m d)=qQ (m d) mId;rw [mSeq_id,id_mSeq]
 | n::l=>by
  show qQ (Nq (l++[m]) d) (n d)=qQ (m d) (qQ (Nq l d) (n d));rw [xL m d l,D5]
theorem Cp (d:Nat):∀ l:List (Nat->Rl),Nq l.reverse d=D6 l d
 | []=>rfl
 | m::l=>by rw [List.reverse_cons,xL,Cp d l];rfl
theorem Cs (l:List It):dE l.reverse=dE l:=by unfold dE;rw [Pf,List.sum_reverse]
theorem Aw:∀ l:List It,ddL l.reverse=ddL l
 | []=>rfl
 | p::l=>by
  rw [List.reverse_cons,rh,Aw l];show max (ddL l) (max p.dd 0)=max p.dd (ddL l);omega
theorem smP_one (m:Nat->Bool):SmP text (Ho m) (mOne text m):=sm_one m
theorem Kr (k:Nat) (hk:k=1\/k=2):SmP text (Cg k) (fun _=>Lr text k):=sm_edge k hk
theorem Gn {g:Nat} {p:Pi} {M:Nat->Rl} (h:SmP text p M) (hg0:1<=g) (hg:g<=9):SmP text (jh g p) (fun d=>Cq g (M d)):=Kq (len:=p.len) h hg0 hg
theorem smP_rep {p:Pi} {M:Nat->Rl} (h:SmP text p M) (least:Nat) (most:Option Nat) (hok:∀ m,most=some m->least<=m):SmP text (nk p least most) (mRep M least most):=by
 have q:=sm_rep (len:=p.len) h least most hok
 cases most with
 | none=>exact q
 | some m=>exact q
abbrev Mn:=Pi×(Nat->Rl)
theorem smP_row (l:List Mn) (h:∀ p∈l,SmP text p.1 p.2):SmP text (gK (l.map (·.1))) (D6 (l.map (·.2))):=by
 have q:=Na (text:=text) ((l.map fun p=>(p.1.it,p.2)).reverse) (fun p hp=>by
  obtain ⟨r,hr,rfl⟩:=List.mem_map.1 (List.mem_reverse.1 hp)
  exact h r hr)
 rw [Pf,Pf,Cs,Aw,OS,OS] at q;have e2:Nq (l.map ((·.2) ∘ fun p:Mn=>(p.1.it,p.2))).reverse=D6 (l.map (·.2)):=by
  funext d
  rw [Cp]
  rfl
 rw [e2] at q;unfold SmP gK xn It.pi;rw [OS];exact q
def Nr (l:List (Nat->Rl)) (d:Nat):Rl:=fun i tk x j tk' x'=>∃ m∈l,m d i tk x j tk' x'
theorem Iq (d:Nat):∀ (l:List (Nat->Rl)) (B:Rl),mBr l B d i tk x j tk' x' ↔ Nr l d i tk x j tk' x'\/B i tk x j tk' x'
 | [],B=>⟨fun h=>.inr h,fun h=>by
  rcases h with ⟨_,hm,_⟩ | h
  .cases hm
  .exact h⟩
 | m::l,B=>by
  show mBr l (mOr (m d) B) d i tk x j tk' x' ↔ _;rw [Iq d l];constructor
  .rintro (⟨m',hm,h⟩ | h | h)
   .exact .inl ⟨m',by simp [hm],h⟩
   .exact .inl ⟨m,by simp,h⟩
   .exact .inr h
  .rintro (⟨m',hm,h⟩ | h)
   .rcases List.mem_cons.1 hm with rfl | hm
    .exact .inr (.inl h)
    .exact .inl ⟨m',hm,h⟩
   .exact .inr (.inr h)
theorem tM {l:List (Nat->Rl)} (hl:l≠[]) (d:Nat):jI l d=Nr l d:=by
 cases l with
 | nil=>exact absurd rfl hl
 | cons m l=>
  refine xo fun i tk x j tk' x'=>?_;show mBr l (m d) d i tk x j tk' x' ↔ _;rw [Iq];constructor
  .rintro (⟨m',hm,h⟩ | h)
   .exact ⟨m',by simp [hm],h⟩
   .exact ⟨m,by simp,h⟩
  .rintro ⟨m',hm,h⟩;rcases List.mem_cons.1 hm with rfl | hm
   .exact .inr h
   .exact .inl ⟨m',hm,h⟩
theorem Lt (l:List (Nat->Rl)) (d:Nat):Nr l.reverse d=Nr l d:=xo fun _ _ _ _ _ _=>
 ⟨fun ⟨m,hm,h⟩=>⟨m,List.mem_reverse.1 hm,h⟩,fun ⟨m,hm,h⟩=>⟨m,List.mem_reverse.2 hm,h⟩⟩
theorem xh (l:List Mn) (hl:l≠[]) (h:∀ p∈l,SmP text p.1 p.2):SmP text (aV (l.map (·.1))) (Nr (l.map (·.2))):=by
 have key:∀ L:List (It×(Nat->Rl)),L≠[]->(∀ p∈L,Sm text p.1.len p.1.dd p.1.em p.2)->Sm text (dE (L.map (·.1))+(L.length - 1)) (ddL (L.map (·.1))) (dA (L.map (·.1))) (jI (L.map (·.2))):=fun L hL hh=>by
  cases L with
  | nil=>exact absurd rfl hL
  | cons p L=>exact yW p L hh
 have q:=key ((l.map fun p=>(p.1.it,p.2)).reverse) (by simpa using hl) (fun p hp=>by
  obtain ⟨r,hr,rfl⟩:=List.mem_map.1 (List.mem_reverse.1 hp)
  exact h r hr)
 rw [Pf,Pf,Cs,Aw,OS,OS,List.length_reverse,OE] at q;have e2:jI (l.map ((·.2) ∘ fun p:Mn=>(p.1.it,p.2))).reverse=Nr (l.map (·.2)):=by
  funext d
  rw [tM (by simpa using hl),Lt]
  rfl
 rw [e2] at q;unfold SmP aV eh It.pi;rw [OS,OE];exact q
end
end Go.Proofs.YtiahkfoojjpaaaaGreatDoor
namespace Go.Proofs.YtiahkfoojjpaaaaGreatDoor
open Go.RowKit Go.MapKept
section
variable {w0 w:World} {b k:Nat} {src:ByteArray} {σ:Sst}
theorem ph {n:Nat}:∀ (cs:List (List Value)) (i j:Nat) (c:List Value),(∀ c∈cs,c.length=n)->cs[i]? = some c->j < n->cs.flatten[i * n+j]? = c[j]?
 | [],i,_,_,_,h,_=>by simp at h
 | d::cs,0,j,c,hl,h,hj=>by
  injection h with h;subst h;have:=hl d (by simp);rw [OX,Pp,Oi,OI (by omega)]
 | d::cs,i+1,j,c,hl,h,hj=>by
  have:=hl d (by simp);rw [OX,Ou (by rw [this,Ow];omega),this,show (i+1) * n+j - n=i * n+j by rw [Ow];omega];exact ph cs i j c (fun c hc=>hl c (by simp [hc])) h hj
theorem Sr.pI {i j g cap:Nat} {c:List Value} (h:Sr w0 w b src k σ) (hv:σ.vc=.slice (some ⟨g,0,none⟩) σ.cs.length cap) (hi:σ.cs[i]? = some c) (hj:j < 23):w.cell? ⟨g,i * 23+j,none⟩=c[j]?:=by
 have hlt:i < σ.cs.length:=(List.getElem?_eq_some_iff.1 hi).1;have o4:=h.r.o4;rw [hv] at o4;rw [o4.cellAt (i * 23+j) (by omega)];exact ph σ.cs i j c (fun c hc=>(h.r.len c hc).1) hi hj
theorem GZ {ci pl n j:Nat} {c:List Value} {x:ByteArray} (hs:Sr w0 w b src k σ) (hc:σ.cs[ci]? = some c) (hx:c[4]? = some (.string x)) (hne:(x.toList == [])=false) (hf:Instr.findNow .string (.string x) (strE 0 σ.ls) 0=some (some (j,.int .i64 (n:Int)))) :
  Calls Tryz.prog 106 #[.pointer (some ⟨b,0,none⟩),.agg #[.int .i64 (ci:Int),.int .i64 (pl:Int)]] w fun r w'=>r=.returned (.tuple #[])/\Sr w0 w' b src k { σ with cs:=σ.cs.set ci (c.set 5 (.int .i64 (n:Int))) }:=by
 have hilt:ci < σ.cs.length:=(List.getElem?_eq_some_iff.1 hc).1;obtain ⟨g,cap,ev⟩:=fK hs.r.o4 (by omega);have ka:=Kp.alloc [] w (.cells #[.int .i64 (ci:Int),.int .i64 (pl:Int)] 164);have BG:=Bl.alloc w [.int .i64 (ci:Int),.int .i64 (pl:Int)] 164;have s1:=hs.aj ka;have HF:=hid hf;have HEV:=hid ev;clear hf hs;go_enter Tryz.func106,Tryz.ntmps106
 go_upto_region 1 with fail
 obtain ⟨gb,hgb⟩:∃ gb,gb=w.heap.size:=⟨_,rfl⟩;obtain ⟨w1,hw1⟩:∃ w1,w1=w.alloc (.cells #[.int .i64 (ci:Int),.int .i64 (pl:Int)] 164):=⟨_,rfl⟩;rw [<-hgb,<-hw1] at BG;rw [<-hw1] at s1;rw [<-hgb,<-hw1];clear hgb hw1 ka;have c4:=s1.c.c4;rw [ev] at c4;have d0:=BG.at_ 0 _ rfl;clear ev;go_quiet (fail);have s2:=s1.aj (Kp.drewN [] w1 nq);obtain ⟨w2,hw2⟩:∃ w2,w2=w1.drewN nq:=⟨_,rfl⟩;rw [<-hw2] at s2 ⊢;clear hw2 s1 BG c4 d0;have d4:=(s2.pI HEV.out hc (j:=4) (by omega)).trans hx;go_upto_region 4 with fail
 have c9:=s2.c.c9;have hlk:∀ m',(Instr.lookup 124 (.map (some σ.lb)) (.string x) true).run Tryz.prog (w2.drewN m')=.ok (.tuple #[.int .i64 (n:Int),.bool true]) (w2.drewN m'):=fun m'=>
  lC Tryz.underlying124 Tryz.underlying9 (((Kp.drewN [] w2 m').block _ (s2.r.bk.hi 2 _ rfl) (by simp)).trans s2.r.m9) HF.out
 go_quiet (fail);have s3:=s2.aj (Kp.drewN [] w2 nq);obtain ⟨w3,hw3⟩:∃ w3,w3=w2.drewN nq:=⟨_,rfl⟩;rw [<-hw3] at s3 ⊢;clear hw3 hlk c9 d4 s2;obtain ⟨u5,d5⟩:∃ u,w3.cell? ⟨g,ci * 23+5,none⟩=some u:=by
  have hl5:5 < c.length:=by rw [(s3.r.len c (Oo hc)).1];omega
  exact ⟨_,(s3.pI HEV.out hc (j:=5) (by omega)).trans (Ob hl5)⟩
 have f5:w3.frozen? ⟨g,ci * 23+5,none⟩=false:=by
  have o4:=s3.r.o4;rw [HEV.out] at o4;exact o4.frozenAt _
 have S4:=hid (s3.Gt (i:=ci) (j:=5) (v:=.int .i64 (n:Int)) HEV.out hc (by omega) rfl);go_wp2_with fail;go_end0;exact ⟨rfl,S4.out⟩
end
end Go.Proofs.YtiahkfoojjpaaaaGreatDoor
namespace Go.Proofs.YtiahkfoojjpaaaaGreatDoor
open Go.RowKit
theorem Gg {P:Program} {ops:Array Oper} {o:Oper} {a:Act} {w:World} {K:Act->World->Prop} {Q:Exit->Act->World->Prop} {E:Prop} (hgd:o.guard=none) (sl x:Operand) (t u:TypeId)
  (ho:o.op=.call { callee:=.builtin .append,args:=#[sl,x],argTypes:=#[t,u] })
  (base:Nat) (e:TypeId) (i:TypeInfo) (ht:P.underlying t=some (.slice e)) (hu:P.underlying u=some .string) (hi:P.info? e=some i) (hz:i.zero=some (.int .u8 0)) (hsize:i.size=1) (hby:i.bytes=1)
  (v:Value) (n:Nat) (xs:List Value) (hs:a.eval sl=v) (hown:w.ownsRow base e 1 v n xs) (s:ByteArray) (hx:a.eval x=.string s) (h63:n+s.size<=1000000) (hbase:base<=w.heap.size)
  (h:∀ v' w',w'.ownsRow base e 1 v' (n+s.size) (xs++Lib.byteCells s.data.toList)->w.grownBy w' v.ownBlock->(∀ g,v'.ownBlock=some g->v.ownBlock=some g\/w.heap.size<=g)->K (a.put o.dst v') w') :
  if Region.wanted o (yielded ops a.tmps)=true then Oper.wp P o a w K Q else E:=by
 have hw:Region.wanted o (yielded ops a.tmps)=true:=by simp [Region.wanted,hgd]
 rw [Oa hw];obtain ⟨v',w',hr,h2,h3,h4⟩:=BI (P:=P) (ty:=o.type) ht hu hi hz hsize hby hown s h63 hbase;unfold Oper.wp;simp [execOp,ho,resolve,invoke,builtin,hs,hx,hr,Result.andThen];exact h v' w' h2 h3 h4
structure AZ (lo:Nat) (w:World) (v:Value) (xs:List UInt8) (w':World) (v':Value) (ys:List UInt8):Prop where
 row:w'.ownsRow lo 5 1 v' ys.length (Lib.byteCells ys)
 kp:Kp v.ownBlock.toList w w'
 at_:∀ g,v'.ownBlock=some g->v.ownBlock=some g\/w.heap.size<=g
 lo:lo<=w'.heap.size
theorem AZ.refl {lo:Nat} {w:World} {v:Value} {xs:List UInt8} (h:w.ownsRow lo 5 1 v xs.length (Lib.byteCells xs)) (hl:lo<=w.heap.size):AZ lo w v xs w v xs:=⟨h,Kp.refl _ _,fun _ e=>.inl e,hl⟩
theorem AZ.aj {lo:Nat} {w w1 w2:World} {v v1:Value} {xs ys:List UInt8} (h:AZ lo w v xs w1 v1 ys) (k:Kp [] w1 w2):AZ lo w v xs w2 v1 ys:=
 ⟨ai h.row (fun p hp=>k.block p (aC h.row hp).2 (by simp)),h.kp.trans (k.mono (by simp)),h.at_,Oc h.lo k.size⟩
theorem AZ.more {lo:Nat} {w w1 w2:World} {v v1 v2:Value} {xs ys zs:List UInt8} (h:AZ lo w v xs w1 v1 ys) (ho:w2.ownsRow lo 5 1 v2 (ys.length+zs.length) (Lib.byteCells ys++Lib.byteCells zs)) (hg:w1.grownBy w2 v1.ownBlock) (hl:∀ g,v2.ownBlock=some g->v1.ownBlock=some g\/w1.heap.size<=g):AZ lo w v xs w2 v2 (ys++zs):=by
 have e:Lib.byteCells (ys++zs)=Lib.byteCells ys++Lib.byteCells zs:=by simp [Lib.byteCells]
 have kg:=aQ (S:=v1.ownBlock.toList) hg (fun p hp=>by rw [hp];simp);refine ⟨by rw [e,N9];exact ho,h.kp.past kg (fun x hx=>?_),fun g e=>?_,Oc h.lo hg.size⟩
 .have hx:v1.ownBlock=some x:=by simpa using hx
  rcases h.at_ x hx with r | r
  .exact .inl (by simpa using r)
  .exact .inr r
 .rcases hl g e with r | r
  .exact h.at_ g r
  .exact .inr (Oc h.kp.size r)
theorem AZ.cell {lo:Nat} {w w1:World} {v v1:Value} {xs ys:List UInt8} (h:AZ lo w v xs w1 v1 ys) {p:Addr} {u:Value} (hc:w.cell? p=some u) (hn:v.ownBlock≠some p.block):w1.cell? p=some u:=
 (h.kp.cell (World.block_lt_of_cell? _ _ hc) (by simpa using hn)).trans hc
theorem Es (W:World) (x:UInt8):(convert 49 9 (.slice (some ⟨W.heap.size,0,none⟩) 1 1)).run Tryz.prog (W.alloc (.cells #[.int .u8 (x.toNat:Int)] 5)) =
  .ok (.string ⟨#[x]⟩) (W.alloc (.cells #[.int .u8 (x.toNat:Int)] 5)):=
 run_convert_bytes_back (P:=Tryz.prog) _ 49 9 5 ⟨W.heap.size,0,none⟩ 1 [x] (by kernel_rfl) (by kernel_rfl) (by kernel_rfl) (fun j hj=>by
  have e:j=0:=by simp at hj;exact hj
  subst e
  simp [go_sem])
def pk (c n:Int):Int:=(if c < 0 then -(c+1) else c) % n
theorem pk_bd (c n:Int) (h:0 < n):0<=pk c n/\pk c n < n:=⟨Int.emod_nonneg _ (by omega),Int.emod_lt_of_pos _ h⟩
theorem GX {a b:Int} (h:a=b):Ending.returned (.int .i64 a)=.returned (.int .i64 b):=by rw [h]
theorem Ce (c n:Int) (h1 : -9223372036854775808<=c) (h2:c<=9223372036854775807) (h3:0 < n) (h4:n<=562949953421312) (w:World) :
  Calls Tryz.prog 15 #[.int .i64 c,.int .i64 n] w fun e w'=>e=.returned (.int .i64 (pk c n))/\w'=w:=by
 by_cases hc:c < 0
 .have hn:¬ n=0:=by omega
  go_enter Tryz.func15,Tryz.ntmps15
  go_wp2;go_ret;refine ⟨?_,rfl⟩;refine GX ?_;unfold pk;rw [Oa hc,<-Int.neg_tmod,Int.tmod_eq_emod_of_nonneg (by omega)]
 .have hn:¬ n=0:=by omega
  go_enter Tryz.func15,Tryz.ntmps15
  go_wp2;go_ret;refine ⟨?_,rfl⟩;refine GX ?_;unfold pk;rw [N7 (by omega)]
structure rF (w:World) (A:Option Addr) (n:Nat) (z:Nat->Int):Prop where
 at_:∀ j,j < n->∃ ad,A=some ad/\w.cell? (ad.add j)=some (.int .i64 (z j))
 bd:∀ j,j < n->-9223372036854775808<=z j/\z j<=9223372036854775807
theorem rF.aj {w w':World} {A:Option Addr} {n:Nat} {z:Nat->Int} (h:rF w A n z) (k:Kp [] w w'):rF w' A n z:=
 ⟨fun j hj=>by
   obtain ⟨ad,e,hc⟩:=h.at_ j hj
   exact ⟨ad,e,(k.cell (World.block_lt_of_cell? _ _ hc) (by simp)).trans hc⟩,h.bd⟩
theorem pH (W:World) (c:Nat) (hc:c < 256):(convert 49 9 (.slice (some ⟨W.heap.size,0,none⟩) 1 1)).run Tryz.prog (W.alloc (.cells #[.int .u8 (c:Int)] 5))=.ok (.string ⟨#[c.toUInt8]⟩) (W.alloc (.cells #[.int .u8 (c:Int)] 5)):=by
 have h:=Es W c.toUInt8;have e:((c.toUInt8).toNat:Int)=(c:Int):=by
  have:(c.toUInt8).toNat=c:=by show c % 256=c;omega
  rw [this]
 rw [e] at h;exact h
theorem rj (W:World):(convert 49 9 (.slice (some ⟨W.heap.size,0,none⟩) 1 1)).run Tryz.prog (W.alloc (.cells #[.int .u8 97] 5))=.ok (.string ⟨#[97]⟩) (W.alloc (.cells #[.int .u8 97] 5)):=pH W 97 (by omega)
theorem ri (W:World):(convert 49 9 (.slice (some ⟨W.heap.size,0,none⟩) 1 1)).run Tryz.prog (W.alloc (.cells #[.int .u8 98] 5))=.ok (.string ⟨#[98]⟩) (W.alloc (.cells #[.int .u8 98] 5)):=pH W 98 (by omega)
theorem Er (W:World):(convert 49 9 (.slice (some ⟨W.heap.size,0,none⟩) 1 1)).run Tryz.prog (W.alloc (.cells #[.int .u8 99] 5))=.ok (.string ⟨#[99]⟩) (W.alloc (.cells #[.int .u8 99] 5)):=pH W 99 (by omega)
theorem iy {S:ByteArray} {c:UInt8} (h:∀ u∈S.data.toList,u=97\/u=98\/u=99) (hc:c=97\/c=98\/c=99):∀ u∈(S++⟨#[c]⟩:ByteArray).data.toList,u=97\/u=98\/u=99:=by
 intro u hu;rw [ByteArray.data_append,Array.toList_append] at hu;rcases List.mem_append.1 hu with q | q
 .exact h u q
 .rw [List.mem_singleton.1 (show u∈[c] from q)];exact hc
theorem J5 (raw most:Int) (h1 : -9223372036854775808<=raw) (h2:raw<=9223372036854775807) (h3:0 < most) (h4:most<=6) (w:World) :
  Calls Tryz.prog 30 #[.int .i64 raw,.int .i64 most] w fun e w'=>∃ W:ByteArray,e=.returned (.string W)/\(∀ u∈W.data.toList,u=97\/u=98\/u=99)/\((W.size:Int)<=most/\1<=W.size)/\Kp [] w w':=by
 go_enter Tryz.func30,Tryz.ntmps30
 go_wp2_with fail;refine (Ce raw most h1 h2 h3 (by omega) _).mono ?_;rintro e w1 ⟨rfl,rfl⟩;obtain ⟨p1,p2⟩:=pk_bd raw most h3;obtain ⟨n,hn⟩:∃ n:Nat,pk raw most+1=(n:Int):=⟨(pk raw most+1).toNat,by omega⟩;obtain ⟨z,hz⟩:∃ z,pk raw most=z:=⟨_,rfl⟩;rw [hz] at hn p1 p2 ⊢;clear hz;have wn:=aa n (by omega);go_wp2_with fail;obtain ⟨y,hy⟩:∃ y,raw.tdiv 7=y:=⟨_,rfl⟩;have hyb : -9223372036854775808<=y/\y<=9223372036854775807:=by
  rw [<-hy];rcases Int.le_total 0 raw with h | h
  .rw [Pz h];omega
  .rw [show raw = -(-raw) by omega,Int.neg_tdiv,Pz (by omega)];omega
 rw [hy];clear hy;refine (Ce y 1099511627776 hyb.1 hyb.2 (by omega) (by omega) _).mono ?_;rintro e w2 ⟨rfl,rfl⟩;obtain ⟨q1,q2⟩:=pk_bd y 1099511627776 (by omega);obtain ⟨r0,hr0⟩:∃ r0:Nat,pk y 1099511627776=(r0:Int):=⟨(pk y 1099511627776).toNat,by omega⟩;rw [hr0] at q1 q2 ⊢;have hnb:1<=n/\(n:Int)<=most:=by omega
 clear hr0 hyb hn p1 p2;go_wp2_with fail;go_loopw [0,6,7] (fun rv s i wr=>∃ (k r:Nat) (S:ByteArray),k<=n/\r < 1099511627776/\rv=.int .i64 r/\s=.string S/\i=.int .i64 k/\S.size=k/\Hid (∀ u∈S.data.toList,u=97\/u=98\/u=99)/\Kp [] w2 wr) (fun _ _ i _=>n - (intOf i).toNat)
 case atStart=>exact ⟨0,r0,⟨#[]⟩,by omega,by omega,rfl,rfl,rfl,rfl,hid (fun u hu=>by cases hu),Kp.refl _ _⟩
 case round=>
  obtain ⟨k,r,S,hk,hr,rfl,rfl,rfl,hS,HS,kp⟩:=hrel;by_cases hlt:k < n
  .obtain ⟨k1,hk1⟩:∃ k1:Nat,(k:Int)+1=(k1:Int):=⟨k+1,by omega⟩;have wk1:=aa k1 (by omega);have HK:=hid (show k1=k+1 by omega);obtain ⟨d,hd⟩:∃ d:Nat,(r:Int).tdiv 5=(d:Int)/\d < 1099511627776:=⟨r / 5,by rw [Pz (by omega)];omega,by omega⟩;obtain ⟨hd1,hd2⟩:=hd;have wd:=aa d (by omega);have hm:(r:Int).tmod 5=(r:Int) % 5:=Int.tmod_eq_emod_of_nonneg (by omega);have hz1:¬ 9223372036854775807 < S.size+1:=by omega
   rcases (show (r:Int) % 5=0\/(r:Int) % 5=1\/(r:Int) % 5=2\/(r:Int) % 5=3\/(r:Int) % 5=4 by omega) with h5 | h5 | h5 | h5 | h5
   .have hmm:(r:Int).tmod 5=0:=by rw [hm];omega
    have ix:((((⟨#[97,97,98,98,99]⟩:ByteArray)[0]'(by decide)).toNat:Nat):Int)=97:=rfl;have kc:=rj wr;clear hm;go_wp2_with fail;refine ⟨⟨k1,d,_,by omega,hd2,rfl,rfl,rfl,?_,hid ?_,kp.trans (Kp.alloc _ _ _)⟩,by simp [intOf];omega⟩
    .rw [Pj,hS];exact HK.out.symm
    .exact iy HS.out (by decide)
   .have hmm:(r:Int).tmod 5=1:=by rw [hm];omega
    have ix:((((⟨#[97,97,98,98,99]⟩:ByteArray)[1]'(by decide)).toNat:Nat):Int)=97:=rfl;have kc:=rj wr;clear hm;go_wp2_with fail;refine ⟨⟨k1,d,_,by omega,hd2,rfl,rfl,rfl,?_,hid ?_,kp.trans (Kp.alloc _ _ _)⟩,by simp [intOf];omega⟩
    .rw [Pj,hS];exact HK.out.symm
    .exact iy HS.out (by decide)
   .have hmm:(r:Int).tmod 5=2:=by rw [hm];omega
    have ix:((((⟨#[97,97,98,98,99]⟩:ByteArray)[2]'(by decide)).toNat:Nat):Int)=98:=rfl;have kc:=ri wr;clear hm;go_wp2_with fail;refine ⟨⟨k1,d,_,by omega,hd2,rfl,rfl,rfl,?_,hid ?_,kp.trans (Kp.alloc _ _ _)⟩,by simp [intOf];omega⟩
    .rw [Pj,hS];exact HK.out.symm
    .exact iy HS.out (by decide)
   .have hmm:(r:Int).tmod 5=3:=by rw [hm];omega
    have ix:((((⟨#[97,97,98,98,99]⟩:ByteArray)[3]'(by decide)).toNat:Nat):Int)=98:=rfl;have kc:=ri wr;clear hm;go_wp2_with fail;refine ⟨⟨k1,d,_,by omega,hd2,rfl,rfl,rfl,?_,hid ?_,kp.trans (Kp.alloc _ _ _)⟩,by simp [intOf];omega⟩
    .rw [Pj,hS];exact HK.out.symm
    .exact iy HS.out (by decide)
   .have hmm:(r:Int).tmod 5=4:=by rw [hm];omega
    have ix:((((⟨#[97,97,98,98,99]⟩:ByteArray)[4]'(by decide)).toNat:Nat):Int)=99:=rfl;have kc:=Er wr;clear hm;go_wp2_with fail;refine ⟨⟨k1,d,_,by omega,hd2,rfl,rfl,rfl,?_,hid ?_,kp.trans (Kp.alloc _ _ _)⟩,by simp [intOf];omega⟩
    .rw [Pj,hS];exact HK.out.symm
    .exact iy HS.out (by decide)
  .go_wp2_with fail;go_ret;obtain rfl:n=k:=by omega
   exact ⟨S,rfl,HS.out,⟨by omega,by omega⟩,kp⟩
def nc (l:List UInt8):Prop:=l.length<=107/\∀ u∈l,u=97\/u=98\/u=99\/u=32
theorem nc.no10 {l:List UInt8} (h:nc l):(10:UInt8)∉l:=fun e=>by
 have:=h.2 10 e
 revert this;decide
structure Lns (lo:Nat) (w:World) (v:Value) (ls:List (List UInt8)):Prop where
 own:w.ownsRow lo 9 1 v ls.length (ls.map fun l=>Value.string (ba l))
 ok:∀ l∈ls,nc l
theorem Lns.aj {lo:Nat} {w w':World} {v:Value} {ls:List (List UInt8)} (h:Lns lo w v ls) (k:Kp [] w w'):Lns lo w' v ls:=
 ⟨ai h.own (fun p hp=>k.block p (aC h.own hp).2 (by simp)),h.ok⟩
theorem Lns.form {lo:Nat} {w:World} {v:Value} {ls:List (List UInt8)} (h:Lns lo w v ls):∃ A c,v=.slice A ls.length c/\∀ j l,ls[j]? = some l->∃ g,A=some ⟨g,0,none⟩/\w.cell? ⟨g,j,none⟩=some (.string (ba l)):=by
 rcases h.own.2 with ⟨e,e2⟩ | ⟨g,cap,cur,e,_⟩
 .refine ⟨none,0,by rw [e,e2],fun j l hj=>?_⟩;have:=(List.getElem?_eq_some_iff.1 hj).1;omega
 .refine ⟨some ⟨g,0,none⟩,cap,e,fun j l hj=>⟨g,rfl,?_⟩⟩;have o:=h.own;rw [e] at o;have hlt:=(List.getElem?_eq_some_iff.1 hj).1;rw [o.cellAt j (by omega),OG,hj];rfl
theorem kp_grow {w w4 w5:World} {v:Value} {n:Nat} {xs:List Value} {e:TypeId} (k:Kp [] w w4) (ow:w4.ownsRow w.heap.size e 1 v n xs) (hg:w4.grownBy w5 v.ownBlock):Kp [] w w5:=by
 have kg:=aQ (S:=v.ownBlock.toList) hg (fun p hp=>by rw [hp];simp);have hge:∀ x,x∈(Value.ownBlock v).toList->w.heap.size<=x:=fun x hx=>(aC ow (by simpa using hx)).1;exact ⟨kg.os.trans k.os,kg.tape.trans k.tape,kg.output.trans k.output,Oc k.size kg.size,fun q hq hn=>(kg.block q (N8 hq k.size) (fun e=>by have:=hge q e;omega)).trans (k.block q hq hn)⟩
theorem Lns.push {w w3 w5:World} {v:Value} {ls:List (List UInt8)} {g cap:Nat} {l:List UInt8} {o:Obj} (h:Lns w.heap.size w3 v ls) (ho:w5.ownsRow w.heap.size 9 1 (.slice (some ⟨g,0,none⟩) (ls.length+1) cap) (ls.length+1) ((ls.map fun l=>Value.string (ba l))++[.string (ba l)])) (hl:nc l) (k:Kp [] w w3) (hg:(w3.alloc o).grownBy w5 v.ownBlock) :
  Lns w.heap.size w5 (.slice (some ⟨g,0,none⟩) (ls.length+1) cap) (ls++[l])/\Kp [] w w5:=by
 refine ⟨⟨?_,fun x hx=>?_⟩,kp_grow (k.trans (Kp.alloc [] w3 o)) (h.aj (Kp.alloc [] w3 o)).own hg⟩
 .rw [N9,OA];exact ho
 .rcases List.mem_append.1 hx with q | q
  .exact h.ok x q
  .rw [List.mem_singleton.1 q];exact hl
theorem qT {a b:List UInt8} (ha:∀ u∈a,u=97\/u=98\/u=99\/u=32) (hb:∀ u∈b,u=97\/u=98\/u=99\/u=32):∀ u∈a++b,u=97\/u=98\/u=99\/u=32:=fun u hu=>by
 rcases List.mem_append.1 hu with q | q
 .exact ha u q
 .exact hb u q
theorem Ix (A:Option Addr) (n c:Nat) (z:Nat->Int) (w:World) (hn:n < 9223372036854775808) (hz:rF w A n z) :
  Calls Tryz.prog 17 #[.slice A n c] w fun e w'=>∃ v ls,e=.returned v/\Lns w.heap.size w' v ls/\1<=ls.length/\ls.length<=13/\Kp [] w w':=by
 obtain ⟨i0,hi,hz0,hz1,hz2⟩:=info_parts Tryz.Ae;have HI:=hid (And.intro hi (And.intro hz0 (And.intro hz1 hz2)));have HZ:=hid hz;clear hi hz0 hz1 hz2 hz;go_enter Tryz.func17,Tryz.ntmps17
 go_wp2_with fail;go_loopw [3,4,5] (fun l s i wr=>∃ (k:Nat) (S:List UInt8) (ls:List (List UInt8)),k<=n/\i=.int .i64 k/\s=.string (ba S)/\S.length<=101/\ls.length<=12/\Hid (∀ u∈S,u=97\/u=98\/u=99\/u=32)/\Hid (Lns w.heap.size wr l ls)/\Kp [] w wr) (fun _ _ i _=>n - (intOf i).toNat)
 case atStart=>exact ⟨0,[],[],by omega,rfl,rfl,by simp,by simp,hid (fun u hu=>by cases hu),hid ⟨World.ownsRow_nil _ _ _ _,fun l hl=>by cases hl⟩,Kp.refl _ _⟩
 case round=>
  obtain ⟨k,S,ls,hk,rfl,rfl,hS,hls,HS,HL,kp⟩:=hrel;obtain ⟨A',c',ev,hcell⟩:=HL.out.form;subst ev;by_cases hkn:k < n
  .by_cases hl12:ls.length < 12
   .obtain ⟨ad,rfl,hc⟩:=(HZ.out.aj kp).at_ k hkn;have hb:=HZ.out.bd k hkn;obtain ⟨x,hx⟩:∃ x,x=z k:=⟨_,rfl⟩;rw [<-hx] at hc hb;clear hx;obtain ⟨k1,hk1⟩:∃ k1:Nat,(k:Int)+1=(k1:Int):=⟨k+1,by omega⟩;have wk:=aa k1 (by omega);obtain ⟨t,ht⟩:∃ t,x.tmod 3=t:=⟨_,rfl⟩;go_wp2_with fail;refine (J5 x 6 hb.1 hb.2 (by omega) (by omega) _).mono ?_;rintro e w2 ⟨W,rfl,hW,⟨hW6,_⟩,k2⟩;obtain ⟨Wl,rfl⟩:∃ Wl,W=ba Wl:=⟨W.data.toList,(ba_of W).symm⟩;rw [dS] at hW;rw [aw] at hW6;obtain ⟨T,hT⟩:∃ T,T=S++Wl:=⟨_,rfl⟩;have happ:ba S++ba Wl=ba T:=by rw [gu,hT]
    have hsz:¬ 9223372036854775807 < (ba S).size+(ba Wl).size:=by rw [aw,aw];omega
    have hTl:T.length<=107:=by rw [hT,N9];omega
    have HTU:Hid (∀ u∈T,u=97\/u=98\/u=99\/u=32):=hid (by
     rw [hT]
     exact qT HS.out (fun u hu=>by rcases hW u hu with q | q | q <;> simp [q]))
    have HLO:Hid (nc T):=hid ⟨hTl,HTU.out⟩;have L2:=hid (HL.out.aj k2);have K2:=hid (kp.trans k2);have hc2:w2.cell? (ad.add k)=some (.int .i64 x):=(k2.cell (World.block_lt_of_cell? _ _ hc) (by simp)).trans hc;have OWN:Hid ((w2.alloc (.cells #[.string (ba T)] 9)).ownsRow w.heap.size 9 1 (.slice A' ls.length c') ls.length (ls.map fun l=>Value.string (ba l))):=hid (L2.out.aj (Kp.alloc [] w2 _)).own;have HSZ:Hid (w.heap.size<=(w2.alloc (.cells #[.string (ba T)] 9)).heap.size):=hid (Oc K2.out.size (Kp.alloc [] w2 _).size);have hts:(ba T).size=T.length:=aw T;clear hT hW hcell kp k2 hc HS HL
    cases hq:(t == 0)
    .by_cases h100:100 < T.length
     .go_wp2_with (at_builtin;refine dh rfl _ _ 42 rfl w.heap.size 9 i0 (.string ⟨#[]⟩) 1 16 Tryz.underlying42 HI.out.1 HI.out.2.1 HI.out.2.2.1 HI.out.2.2.2 rfl (by decide) (.slice A' ls.length c') ls.length (ls.map fun l=>Value.string (ba l)) rfl OWN.out ⟨w2.heap.size,0,none⟩ 1 1 [.string (ba T)] rfl rfl (fun j u hu=>by rw [Addr.add_mid,Oi];exact (Bl.alloc w2 [.string (ba T)] 9).at_ j u hu) (fun u hu=>by simp at hu;subst hu;rfl) (by unfold maxLen;omega) (by omega) HSZ.out (by omega) ?_;intro g cap w5 ho hg hor)
      obtain ⟨L5,K5⟩:=L2.out.push ho HLO.out K2.out hg;go_round
      case rel=>exact ⟨k1,[],ls++[T],by omega,rfl,rfl,by simp,by simp;omega,hid (fun u hu=>by cases hu),hid L5,K5⟩
      case measure=>simp [intOf];omega
     .have hs2:¬ 9223372036854775807 < T.length+1:=by omega
      go_wp2_with fail;go_round
      case rel=>exact ⟨k1,T++[32],ls,by omega,rfl,by rw [show (⟨#[32]⟩:ByteArray)=ba [32] from rfl,gu],by simp;omega,by omega,hid (qT HTU.out (fun u hu=>by simp at hu;simp [hu])),L2,K2.out⟩
      case measure=>simp [intOf];omega
    .go_wp2_with (at_builtin;refine dh rfl _ _ 42 rfl w.heap.size 9 i0 (.string ⟨#[]⟩) 1 16 Tryz.underlying42 HI.out.1 HI.out.2.1 HI.out.2.2.1 HI.out.2.2.2 rfl (by decide) (.slice A' ls.length c') ls.length (ls.map fun l=>Value.string (ba l)) rfl OWN.out ⟨w2.heap.size,0,none⟩ 1 1 [.string (ba T)] rfl rfl (fun j u hu=>by rw [Addr.add_mid,Oi];exact (Bl.alloc w2 [.string (ba T)] 9).at_ j u hu) (fun u hu=>by simp at hu;subst hu;rfl) (by unfold maxLen;omega) (by omega) HSZ.out (by omega) ?_;intro g cap w5 ho hg hor)
     obtain ⟨L5,K5⟩:=L2.out.push ho HLO.out K2.out hg;go_round
     case rel=>exact ⟨k1,[],ls++[T],by omega,rfl,rfl,by simp,by simp;omega,hid (fun u hu=>by cases hu),hid L5,K5⟩
     case measure=>simp [intOf];omega
   .have OWN:Hid ((wr.alloc (.cells #[.string (ba S)] 9)).ownsRow w.heap.size 9 1 (.slice A' ls.length c') ls.length (ls.map fun l=>Value.string (ba l))):=hid (HL.out.aj (Kp.alloc [] wr _)).own;have HSZ:Hid (w.heap.size<=(wr.alloc (.cells #[.string (ba S)] 9)).heap.size):=hid (Oc kp.size (Kp.alloc [] wr _).size);have KP:=hid kp;clear hcell kp;go_wp2_with (at_builtin;refine dh rfl _ _ 42 rfl w.heap.size 9 i0 (.string ⟨#[]⟩) 1 16 Tryz.underlying42 HI.out.1 HI.out.2.1 HI.out.2.2.1 HI.out.2.2.2 rfl (by decide) (.slice A' ls.length c') ls.length (ls.map fun l=>Value.string (ba l)) rfl OWN.out ⟨wr.heap.size,0,none⟩ 1 1 [.string (ba S)] rfl rfl (fun j u hu=>by rw [Addr.add_mid,Oi];exact (Bl.alloc wr [.string (ba S)] 9).at_ j u hu) (fun u hu=>by simp at hu;subst hu;rfl) (by unfold maxLen;omega) (by omega) HSZ.out (by omega) ?_;intro g cap w5 ho hg hor)
    go_ret;obtain ⟨L5,K5⟩:=HL.out.push ho ⟨by omega,HS.out⟩ KP.out hg;exact ⟨_,ls++[S],rfl,L5,by simp,by simp;omega,K5⟩
  .have OWN:Hid ((wr.alloc (.cells #[.string (ba S)] 9)).ownsRow w.heap.size 9 1 (.slice A' ls.length c') ls.length (ls.map fun l=>Value.string (ba l))):=hid (HL.out.aj (Kp.alloc [] wr _)).own;have HSZ:Hid (w.heap.size<=(wr.alloc (.cells #[.string (ba S)] 9)).heap.size):=hid (Oc kp.size (Kp.alloc [] wr _).size);have KP:=hid kp;clear hcell kp;go_wp2_with (at_builtin;refine dh rfl _ _ 42 rfl w.heap.size 9 i0 (.string ⟨#[]⟩) 1 16 Tryz.underlying42 HI.out.1 HI.out.2.1 HI.out.2.2.1 HI.out.2.2.2 rfl (by decide) (.slice A' ls.length c') ls.length (ls.map fun l=>Value.string (ba l)) rfl OWN.out ⟨wr.heap.size,0,none⟩ 1 1 [.string (ba S)] rfl rfl (fun j u hu=>by rw [Addr.add_mid,Oi];exact (Bl.alloc wr [.string (ba S)] 9).at_ j u hu) (fun u hu=>by simp at hu;subst hu;rfl) (by unfold maxLen;omega) (by omega) HSZ.out (by omega) ?_;intro g cap w5 ho hg hor)
   go_ret;obtain ⟨L5,K5⟩:=HL.out.push ho ⟨by omega,HS.out⟩ KP.out hg;exact ⟨_,ls++[S],rfl,L5,by simp,by simp;omega,K5⟩
theorem Fw (ls:List (List UInt8)) (h:∀ l∈ls,nc l):(wh ls).length<=108 * ls.length:=by
 induction ls with
 | nil=>simp [wh]
 | cons l ls ih=>
  have h1:=(h l (by simp)).1;have h2:=ih (fun l hl=>h l (by simp [hl]));rw [show wh (l::ls)=(l++[10])++wh ls by simp [wh],N9,N9];simp;omega
theorem whole_p {w:World} {A:Option Addr} {c:Nat} {ls:List (List UInt8)} (hok:∀ l∈ls,nc l) (hcell:∀ j l,ls[j]? = some l->∃ g,A=some ⟨g,0,none⟩/\w.cell? ⟨g,j,none⟩=some (.string (ba l))) (hn:ls.length<=100) :
  Calls Tryz.prog 18 #[.slice A ls.length c] w fun e w'=>e=.returned (.string (ba (wh ls)))/\w'=w:=by
 have HC:=hid hcell;have HH:=hid hok;clear hcell hok;go_enter Tryz.func18,Tryz.ntmps18
 go_wp2_with fail;go_loopw [3,4] (fun s i wr=>∃ k:Nat,k<=ls.length/\i=.int .i64 k/\s=.string (ba (wh (ls.take k)))/\wr=w) (fun _ i _=>ls.length - (intOf i).toNat)
 case atStart=>exact ⟨0,by omega,rfl,rfl,rfl⟩
 case round=>
  obtain ⟨k,hk,rfl,rfl,rfl⟩:=hrel;by_cases hkn:k < ls.length
  .obtain ⟨l,hl⟩:∃ l,ls[k]? = some l:=⟨_,Ob hkn⟩;obtain ⟨g,rfl,hc⟩:=HC.out k l hl;obtain ⟨k1,hk1⟩:∃ k1:Nat,(k:Int)+1=(k1:Int):=⟨k+1,by omega⟩;have wk:=aa k1 (by omega);obtain ⟨S,hS⟩:∃ S,S=wh (ls.take k):=⟨_,rfl⟩;have hSl:S.length<=10800:=by
    rw [hS];have:=Fw (ls.take k) (fun l hl=>HH.out l (Pd hl));rw [OB] at this;omega
   have hll:=(HH.out l (Oo hl)).1;have ap1:ba S++ba l=ba (S++l):=gu _ _;have z1:¬ 9223372036854775807 < S.length+l.length:=by omega
   have zs:=aw S;have zl:=aw l;have zsl:(ba (S++l)).size=S.length+l.length:=by rw [aw,N9]
   have z2:¬ 9223372036854775807 < S.length+l.length+1:=by omega
   rw [<-hS];have HL:=hid hl;have HS:=hid hS;clear hl hS;go_wp2_with fail;go_round
   case rel=>
    refine ⟨k1,by omega,rfl,?_,by trivial⟩;have e:k1=k+1:=by omega
    rw [e,PE,HL.out,Option.toList_some,show wh (ls.take k++[l])=wh (ls.take k)++(l++[10]) by simp [wh],<-HS.out,show (⟨#[10]⟩:ByteArray)=ba [10] from rfl,gu,Om]
   case measure=>simp [intOf];omega
  .have e:k=ls.length:=by omega
   subst e;go_wp2_with fail;go_ret;exact ⟨by rw [OY];rfl,rfl⟩
end Go.Proofs.YtiahkfoojjpaaaaGreatDoor
