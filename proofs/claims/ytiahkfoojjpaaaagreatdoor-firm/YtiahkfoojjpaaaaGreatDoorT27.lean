import Derived.Test.YtiahkfoojjpaaaaGreatDoorT17
import Derived.Test.YtiahkfoojjpaaaaGreatDoorT25
import Derived.Test.YtiahkfoojjpaaaaGreatDoorT26
set_option maxRecDepth 100000
set_option maxHeartbeats 16000000
set_option linter.all false
namespace Go.Proofs.YtiahkfoojjpaaaaGreatDoor
open Go.RowKit
def SmP (text:ByteArray) (p:Pi) (M:Nat->Rl):Prop:=Sm text p.len p.dd p.em M
section
variable {text:ByteArray} {A B C:Rl} {i tk j tk':Nat} {x x':Nat->Int}
theorem uS (h:∀ i tk x j tk' x',A i tk x j tk' x' ↔ B i tk x j tk' x'):A=B:=by
 funext i tk x j tk' x'
 exact propext (h i tk x j tk' x')
theorem Dk:qG (qG A B) C=qG A (qG B C):=uS fun _ _ _ _ _ _=>
 ⟨fun ⟨_,_,_,⟨_,_,_,a,b⟩,c⟩=>⟨_,_,_,a,_,_,_,b,c⟩,fun ⟨_,_,_,a,_,_,_,b,c⟩=>⟨_,_,_,⟨_,_,_,a,b⟩,c⟩⟩
theorem mSeq_id:qG A mId=A:=uS fun _ _ _ _ _ _=>
 ⟨fun ⟨_,_,_,a,h1,h2,h3⟩=>by rw [h1,h2,h3];exact a,fun a=>⟨_,_,_,a,rfl,rfl,rfl⟩⟩
theorem id_mSeq:qG mId A=A:=uS fun _ _ _ _ _ _=>
 ⟨fun ⟨_,_,_,⟨h1,h2,h3⟩,a⟩=>by rw [h1,h2,h3] at a;exact a,fun a=>⟨_,_,_,⟨rfl,rfl,rfl⟩,a⟩⟩
def Dl:List (Nat->Rl)->Nat->Rl
 | [],_=>mId
 | m::ms,d=>qG (m d) (Dl ms d)
theorem xl (m:Nat->Rl) (d:Nat):∀ l:List (Nat->Rl),MO (l++[m]) d=qG (m d) (MO l d)
 | []=>by show qG mId (m d)=qG (m d) mId;rw [mSeq_id,id_mSeq]
 | n::l=>by
  show qG (MO (l++[m]) d) (n d)=qG (m d) (qG (MO l d) (n d));rw [xl m d l,Dk]
theorem BB (d:Nat):∀ l:List (Nat->Rl),MO l.reverse d=Dl l d
 | []=>rfl
 | m::l=>by rw [List.reverse_cons,xl,BB d l];rfl
theorem BJ (l:List It):dA l.reverse=dA l:=by unfold dA;rw [Ox,List.sum_reverse]
theorem zR:∀ l:List It,ddL l.reverse=ddL l
 | []=>rfl
 | p::l=>by
  rw [List.reverse_cons,qP,zR l];show max (ddL l) (max p.dd 0)=max p.dd (ddL l);omega
theorem smP_one (m:Nat->Bool):SmP text (Gx m) (mOne text m):=sm_one m
theorem JR (k:Nat) (hk:k=1\/k=2):SmP text (Bq k) (fun _=>Kv text k):=sm_edge k hk
theorem Fh {g:Nat} {p:Pi} {M:Nat->Rl} (h:SmP text p M) (hg0:1<=g) (hg:g<=9):SmP text (iV g p) (fun d=>BH g (M d)):=JQ (len:=p.len) h hg0 hg
theorem smP_rep {p:Pi} {M:Nat->Rl} (h:SmP text p M) (least:Nat) (most:Option Nat) (hok:∀ m,most=some m->least<=m):SmP text (lR p least most) (mRep M least most):=by
 have q:=sm_rep (len:=p.len) h least most hok
 cases most with
 | none=>exact q
 | some m=>exact q
abbrev Mn:=Pi×(Nat->Rl)
theorem smP_row (l:List Mn) (h:∀ p∈l,SmP text p.1 p.2):SmP text (gq (l.map (·.1))) (Dl (l.map (·.2))):=by
 have q:=Mz (text:=text) ((l.map fun p=>(p.1.it,p.2)).reverse) (fun p hp=>by
  obtain ⟨r,hr,rfl⟩:=List.mem_map.1 (List.mem_reverse.1 hp)
  exact h r hr)
 rw [Ox,Ox,BJ,zR,Oh,Oh] at q;have e2:MO (l.map ((·.2) ∘ fun p:Mn=>(p.1.it,p.2))).reverse=Dl (l.map (·.2)):=by
  funext d
  rw [BB]
  rfl
 rw [e2] at q;unfold SmP gq uR It.pi;rw [Oh];exact q
def MP (l:List (Nat->Rl)) (d:Nat):Rl:=fun i tk x j tk' x'=>∃ m∈l,m d i tk x j tk' x'
theorem Hj (d:Nat):∀ (l:List (Nat->Rl)) (B:Rl),mBr l B d i tk x j tk' x' ↔ MP l d i tk x j tk' x'\/B i tk x j tk' x'
 | [],B=>⟨fun h=>.inr h,fun h=>by
  rcases h with ⟨_,hm,_⟩ | h
  .cases hm
  .exact h⟩
 | m::l,B=>by
  show mBr l (mOr (m d) B) d i tk x j tk' x' ↔ _;rw [Hj d l];constructor
  .rintro (⟨m',hm,h⟩ | h | h)
   .exact .inl ⟨m',by simp [hm],h⟩
   .exact .inl ⟨m,by simp,h⟩
   .exact .inr h
  .rintro (⟨m',hm,h⟩ | h)
   .rcases List.mem_cons.1 hm with rfl | hm
    .exact .inr (.inl h)
    .exact .inl ⟨m',hm,h⟩
   .exact .inr (.inr h)
theorem tj {l:List (Nat->Rl)} (hl:l≠[]) (d:Nat):ju l d=MP l d:=by
 cases l with
 | nil=>exact absurd rfl hl
 | cons m l=>
  refine uS fun i tk x j tk' x'=>?_;show mBr l (m d) d i tk x j tk' x' ↔ _;rw [Hj];constructor
  .rintro (⟨m',hm,h⟩ | h)
   .exact ⟨m',by simp [hm],h⟩
   .exact ⟨m,by simp,h⟩
  .rintro ⟨m',hm,h⟩;rcases List.mem_cons.1 hm with rfl | hm
   .exact .inr h
   .exact .inl ⟨m',hm,h⟩
theorem Kw (l:List (Nat->Rl)) (d:Nat):MP l.reverse d=MP l d:=uS fun _ _ _ _ _ _=>
 ⟨fun ⟨m,hm,h⟩=>⟨m,List.mem_reverse.1 hm,h⟩,fun ⟨m,hm,h⟩=>⟨m,List.mem_reverse.2 hm,h⟩⟩
theorem uK (l:List Mn) (hl:l≠[]) (h:∀ p∈l,SmP text p.1 p.2):SmP text (aU (l.map (·.1))) (MP (l.map (·.2))):=by
 have key:∀ L:List (It×(Nat->Rl)),L≠[]->(∀ p∈L,Sm text p.1.len p.1.dd p.1.em p.2)->Sm text (dA (L.map (·.1))+(L.length - 1)) (ddL (L.map (·.1))) (dt (L.map (·.1))) (ju (L.map (·.2))):=fun L hL hh=>by
  cases L with
  | nil=>exact absurd rfl hL
  | cons p L=>exact yw p L hh
 have q:=key ((l.map fun p=>(p.1.it,p.2)).reverse) (by simpa using hl) (fun p hp=>by
  obtain ⟨r,hr,rfl⟩:=List.mem_map.1 (List.mem_reverse.1 hp)
  exact h r hr)
 rw [Ox,Ox,BJ,zR,Oh,Oh,List.length_reverse,N6] at q;have e2:ju (l.map ((·.2) ∘ fun p:Mn=>(p.1.it,p.2))).reverse=MP (l.map (·.2)):=by
  funext d
  rw [tj (by simpa using hl),Kw]
  rfl
 rw [e2] at q;unfold SmP aU dZ It.pi;rw [Oh,N6];exact q
end
end Go.Proofs.YtiahkfoojjpaaaaGreatDoor
namespace Go.Proofs.YtiahkfoojjpaaaaGreatDoor
open Go.RowKit Go.MapKept
section
variable {w0 w:World} {b k:Nat} {src:ByteArray} {σ:Sst}
theorem oM {n:Nat}:∀ (cs:List (List Value)) (i j:Nat) (c:List Value),(∀ c∈cs,c.length=n)->cs[i]? = some c->j < n->cs.flatten[i * n+j]? = c[j]?
 | [],i,_,_,_,h,_=>by simp at h
 | d::cs,0,j,c,hl,h,hj=>by
  injection h with h;subst h;have:=hl d (by simp);rw [On,OQ,NJ,Oa (by omega)]
 | d::cs,i+1,j,c,hl,h,hj=>by
  have:=hl d (by simp);rw [On,NR (by rw [this,NZ];omega),this,show (i+1) * n+j - n=i * n+j by rw [NZ];omega];exact oM cs i j c (fun c hc=>hl c (by simp [hc])) h hj
theorem Sr.oT {i j g cap:Nat} {c:List Value} (h:Sr w0 w b src k σ) (hv:σ.vc=.slice (some ⟨g,0,none⟩) σ.cs.length cap) (hi:σ.cs[i]? = some c) (hj:j < 23):w.cell? ⟨g,i * 23+j,none⟩=c[j]?:=by
 have hlt:i < σ.cs.length:=(List.getElem?_eq_some_iff.1 hi).1;have o4:=h.r.o4;rw [hv] at o4;rw [o4.cellAt (i * 23+j) (by omega)];exact oM σ.cs i j c (fun c hc=>(h.r.len c hc).1) hi hj
theorem F8 {ci pl n j:Nat} {c:List Value} {x:ByteArray} (hs:Sr w0 w b src k σ) (hc:σ.cs[ci]? = some c) (hx:c[4]? = some (.string x)) (hne:(x.toList == [])=false) (hf:Instr.findNow .string (.string x) (strE 0 σ.ls) 0=some (some (j,.int .i64 (n:Int)))) :
  Calls Tryz.prog 106 #[.pointer (some ⟨b,0,none⟩),.agg #[.int .i64 (ci:Int),.int .i64 (pl:Int)]] w fun r w'=>r=.returned (.tuple #[])/\Sr w0 w' b src k { σ with cs:=σ.cs.set ci (c.set 5 (.int .i64 (n:Int))) }:=by
 have hilt:ci < σ.cs.length:=(List.getElem?_eq_some_iff.1 hc).1;obtain ⟨g,cap,ev⟩:=fE hs.r.o4 (by omega);have ka:=Kp.alloc [] w (.cells #[.int .i64 (ci:Int),.int .i64 (pl:Int)] 164);have BG:=Bl.alloc w [.int .i64 (ci:Int),.int .i64 (pl:Int)] 164;have s1:=hs.aj ka;have HF:=hid hf;have HEV:=hid ev;clear hf hs;go_enter Tryz.func106,Tryz.ntmps106
 go_upto_region 1 with fail
 obtain ⟨gb,hgb⟩:∃ gb,gb=w.heap.size:=⟨_,rfl⟩;obtain ⟨w1,hw1⟩:∃ w1,w1=w.alloc (.cells #[.int .i64 (ci:Int),.int .i64 (pl:Int)] 164):=⟨_,rfl⟩;rw [<-hgb,<-hw1] at BG;rw [<-hw1] at s1;rw [<-hgb,<-hw1];clear hgb hw1 ka;have c4:=s1.c.c4;rw [ev] at c4;have d0:=BG.at_ 0 _ rfl;clear ev;go_quiet (fail);have s2:=s1.aj (Kp.drewN [] w1 nq);obtain ⟨w2,hw2⟩:∃ w2,w2=w1.drewN nq:=⟨_,rfl⟩;rw [<-hw2] at s2 ⊢;clear hw2 s1 BG c4 d0;have d4:=(s2.oT HEV.out hc (j:=4) (by omega)).trans hx;go_upto_region 4 with fail
 have c9:=s2.c.c9;have hlk:∀ m',(Instr.lookup 124 (.map (some σ.lb)) (.string x) true).run Tryz.prog (w2.drewN m')=.ok (.tuple #[.int .i64 (n:Int),.bool true]) (w2.drewN m'):=fun m'=>
  jV Tryz.underlying124 Tryz.underlying9 (((Kp.drewN [] w2 m').block _ (s2.r.bk.hi 2 _ rfl) (by simp)).trans s2.r.m9) HF.out
 go_quiet (fail);have s3:=s2.aj (Kp.drewN [] w2 nq);obtain ⟨w3,hw3⟩:∃ w3,w3=w2.drewN nq:=⟨_,rfl⟩;rw [<-hw3] at s3 ⊢;clear hw3 hlk c9 d4 s2;obtain ⟨u5,d5⟩:∃ u,w3.cell? ⟨g,ci * 23+5,none⟩=some u:=by
  have hl5:5 < c.length:=by rw [(s3.r.len c (NO hc)).1];omega
  exact ⟨_,(s3.oT HEV.out hc (j:=5) (by omega)).trans (Nv hl5)⟩
 have f5:w3.frozen? ⟨g,ci * 23+5,none⟩=false:=by
  have o4:=s3.r.o4;rw [HEV.out] at o4;exact o4.frozenAt _
 have S4:=hid (s3.Fk (i:=ci) (j:=5) (v:=.int .i64 (n:Int)) HEV.out hc (by omega) rfl);go_wp2_with fail;go_end0;exact ⟨rfl,S4.out⟩
end
end Go.Proofs.YtiahkfoojjpaaaaGreatDoor
namespace Go.Proofs.YtiahkfoojjpaaaaGreatDoor
open Go.RowKit
theorem E8 {P:Program} {ops:Array Oper} {o:Oper} {a:Act} {w:World} {K:Act->World->Prop} {Q:Exit->Act->World->Prop} {E:Prop} (hgd:o.guard=none) (sl x:Operand) (t u:TypeId)
  (ho:o.op=.call { callee:=.builtin .append,args:=#[sl,x],argTypes:=#[t,u] })
  (base:Nat) (e:TypeId) (i:TypeInfo) (ht:P.underlying t=some (.slice e)) (hu:P.underlying u=some .string) (hi:P.info? e=some i) (hz:i.zero=some (.int .u8 0)) (hsize:i.size=1) (hby:i.bytes=1)
  (v:Value) (n:Nat) (xs:List Value) (hs:a.eval sl=v) (hown:w.ownsRow base e 1 v n xs) (s:ByteArray) (hx:a.eval x=.string s) (h63:n+s.size<=1000000) (hbase:base<=w.heap.size)
  (h:∀ v' w',w'.ownsRow base e 1 v' (n+s.size) (xs++Lib.byteCells s.data.toList)->w.grownBy w' v.ownBlock->(∀ g,v'.ownBlock=some g->v.ownBlock=some g\/w.heap.size<=g)->K (a.put o.dst v') w') :
  if Region.wanted o (yielded ops a.tmps)=true then Oper.wp P o a w K Q else E:=by
 have hw:Region.wanted o (yielded ops a.tmps)=true:=by simp [Region.wanted,hgd]
 rw [Ny hw];obtain ⟨v',w',hr,h2,h3,h4⟩:=Bb (P:=P) (ty:=o.type) ht hu hi hz hsize hby hown s h63 hbase;unfold Oper.wp;simp [execOp,ho,resolve,invoke,builtin,hs,hx,hr,Result.andThen];exact h v' w' h2 h3 h4
structure Ax (lo:Nat) (w:World) (v:Value) (xs:List UInt8) (w':World) (v':Value) (ys:List UInt8):Prop where
 row:w'.ownsRow lo 5 1 v' ys.length (Lib.byteCells ys)
 kp:Kp v.ownBlock.toList w w'
 at_:∀ g,v'.ownBlock=some g->v.ownBlock=some g\/w.heap.size<=g
 lo:lo<=w'.heap.size
theorem Ax.refl {lo:Nat} {w:World} {v:Value} {xs:List UInt8} (h:w.ownsRow lo 5 1 v xs.length (Lib.byteCells xs)) (hl:lo<=w.heap.size):Ax lo w v xs w v xs:=⟨h,Kp.refl _ _,fun _ e=>.inl e,hl⟩
theorem Ax.aj {lo:Nat} {w w1 w2:World} {v v1:Value} {xs ys:List UInt8} (h:Ax lo w v xs w1 v1 ys) (k:Kp [] w1 w2):Ax lo w v xs w2 v1 ys:=
 ⟨ai h.row (fun p hp=>k.block p (aA h.row hp).2 (by simp)),h.kp.trans (k.mono (by simp)),h.at_,Nx h.lo k.size⟩
theorem Ax.more {lo:Nat} {w w1 w2:World} {v v1 v2:Value} {xs ys zs:List UInt8} (h:Ax lo w v xs w1 v1 ys) (ho:w2.ownsRow lo 5 1 v2 (ys.length+zs.length) (Lib.byteCells ys++Lib.byteCells zs)) (hg:w1.grownBy w2 v1.ownBlock) (hl:∀ g,v2.ownBlock=some g->v1.ownBlock=some g\/w1.heap.size<=g):Ax lo w v xs w2 v2 (ys++zs):=by
 have e:Lib.byteCells (ys++zs)=Lib.byteCells ys++Lib.byteCells zs:=by simp [Lib.byteCells]
 have kg:=aV (S:=v1.ownBlock.toList) hg (fun p hp=>by rw [hp];simp);refine ⟨by rw [e,Nu];exact ho,h.kp.past kg (fun x hx=>?_),fun g e=>?_,Nx h.lo hg.size⟩
 .have hx:v1.ownBlock=some x:=by simpa using hx
  rcases h.at_ x hx with r | r
  .exact .inl (by simpa using r)
  .exact .inr r
 .rcases hl g e with r | r
  .exact h.at_ g r
  .exact .inr (Nx h.kp.size r)
theorem Ax.cell {lo:Nat} {w w1:World} {v v1:Value} {xs ys:List UInt8} (h:Ax lo w v xs w1 v1 ys) {p:Addr} {u:Value} (hc:w.cell? p=some u) (hn:v.ownBlock≠some p.block):w1.cell? p=some u:=
 (h.kp.cell (World.block_lt_of_cell? _ _ hc) (by simpa using hn)).trans hc
