import Derived.Test.YtiahkfoojjpaaaaGreatDoorS15
import Derived.Test.YtiahkfoojjpaaaaGreatDoorS26
set_option maxRecDepth 100000
set_option maxHeartbeats 16000000
set_option linter.all false
namespace Go.Proofs.YtiahkfoojjpaaaaGreatDoor
open Go.RowKit
def SmP(text:ByteArray)(p:Pi)(M:Nat->Rl):Prop:=Sm text p.len p.dd p.em M
section
variable {text:ByteArray}{A B C:Rl}{i tk j tk':Nat}{x x':Nat->Int}
theorem yB(h:∀i tk x j tk' x',A i tk x j tk' x' ↔ B i tk x j tk' x'):A=B:=by
 funext i tk x j tk' x'
 exact propext (h i tk x j tk' x')
theorem Fz:te (te A B) C=te A (te B C):=yB fun _ _ _ _ _ _=>
 ⟨fun⟨_,_,_,⟨_,_,_,a,b⟩,c⟩=>⟨_,_,_,a,_,_,_,b,c⟩,fun⟨_,_,_,a,_,_,_,b,c⟩=>⟨_,_,_,⟨_,_,_,a,b⟩,c⟩⟩
theorem mSeq_id:te A mId=A:=yB fun _ _ _ _ _ _=>
 ⟨fun⟨_,_,_,a,h1,h2,h3⟩=>by rw[h1,h2,h3];exact a,fun a=>⟨_,_,_,a,rfl,rfl,rfl⟩⟩
theorem id_mSeq:te mId A=A:=yB fun _ _ _ _ _ _=>
 ⟨fun⟨_,_,_,⟨h1,h2,h3⟩,a⟩=>by rw[h1,h2,h3] at a;exact a,fun a=>⟨_,_,_,⟨rfl,rfl,rfl⟩,a⟩⟩
def F0:List (Nat->Rl)->Nat->Rl
 | [],_=>mId
 | m::ms,d=>te (m d) (F0 ms d)
theorem yP(m:Nat->Rl)(d:Nat):∀l:List (Nat->Rl),PU (l++[m]) d=te (m d) (PU l d)
 | []=>by show te mId (m d)=te (m d) mId;rw[mSeq_id,id_mSeq]
 | n::l=>by
  show te (PU (l++[m]) d) (n d)=te (m d) (te (PU l d) (n d));rw[yP m d l,Fz]
theorem DF(d:Nat):∀l:List (Nat->Rl),PU l.reverse d=F0 l d
 | []=>rfl
 | m::l=>by rw[List.reverse_cons,yP,DF d l];rfl
theorem DJ(l:List It):dI l.reverse=dI l:=by unfold dI;rw[RM,List.sum_reverse]
theorem BS:∀l:List It,ddL l.reverse=ddL l
 | []=>rfl
 | p::l=>by
  rw[List.reverse_cons,tG,BS l];show max (ddL l) (max p.dd 0)=max p.dd (ddL l);omega
theorem smP_one(m:Nat->Bool):SmP text (I7 m) (mOne text m):=sm_one m
theorem MB(k:Nat)(hk:k=1\/k=2):SmP text (Dq k) (fun _=>NJ text k):=sm_edge k hk
theorem Il{g:Nat}{p:Pi}{M:Nat->Rl}(h:SmP text p M)(hg0:1<=g)(hg:g<=9):SmP text (jB g p) (fun d=>DH g (M d)):=Mz (len:=p.len) h hg0 hg
theorem smP_rep{p:Pi}{M:Nat->Rl}(h:SmP text p M)(least:Nat)(most:Option Nat)(hok:∀m,most=some m->least<=m):SmP text (oD p least most) (mRep M least most):=by
 have q:=sm_rep (len:=p.len) h least most hok
 cases most with
 | none=>exact q
 | some m=>exact q
abbrev Mn:=Pi×(Nat->Rl)
theorem smP_row(l:List Mn)(h:∀p∈l,SmP text p.1 p.2):SmP text (gW (l.map (·.1))) (F0 (l.map (·.2))):=by
 have q:=PE (text:=text) ((l.map fun p=>(p.1.it,p.2)).reverse) (fun p hp=>by
  obtain⟨r,hr,rfl⟩:=List.mem_map.1 (List.mem_reverse.1 hp)
  exact h r hr)
 rw[RM,RM,DJ,BS,Ri,Ri] at q;have e2:PU (l.map ((·.2) ∘ fun p:Mn=>(p.1.it,p.2))).reverse=F0 (l.map (·.2)):=by
  funext d
  rw[DF]
  rfl
 rw[e2] at q;unfold SmP gW yz It.pi;rw[Ri];exact q
def PV(l:List (Nat->Rl))(d:Nat):Rl:=fun i tk x j tk' x'=>∃m∈l,m d i tk x j tk' x'
theorem JF(d:Nat):∀(l:List (Nat->Rl)) (B:Rl),mBr l B d i tk x j tk' x' ↔ PV l d i tk x j tk' x'\/B i tk x j tk' x'
 | [],B=>⟨fun h=>.inr h,fun h=>by
  rcases h with⟨_,hm,_⟩|h
  .cases hm
  .exact h⟩
 | m::l,B=>by
  show mBr l (mOr (m d) B) d i tk x j tk' x' ↔ _;rw[JF d l];constructor
  .rintro(⟨m',hm,h⟩|h|h)
   .exact .inl ⟨m',by simp[hm],h⟩
   .exact .inl ⟨m,by simp,h⟩
   .exact .inr h
  .rintro(⟨m',hm,h⟩|h)
   .rcases List.mem_cons.1 hm with rfl|hm
    .exact .inr (.inl h)
    .exact .inl ⟨m',hm,h⟩
   .exact .inr (.inr h)
theorem uS{l:List (Nat->Rl)}(hl:l≠[])(d:Nat):lh l d=PV l d:=by
 cases l with
 | nil=>exact absurd rfl hl
 | cons m l=>
  refine yB fun i tk x j tk' x'=>?_;show mBr l (m d) d i tk x j tk' x' ↔ _;rw[JF];constructor
  .rintro(⟨m',hm,h⟩|h)
   .exact⟨m',by simp[hm],h⟩
   .exact⟨m,by simp,h⟩
  .rintro⟨m',hm,h⟩;rcases List.mem_cons.1 hm with rfl|hm
   .exact .inr h
   .exact .inl ⟨m',hm,h⟩
theorem NK(l:List (Nat->Rl))(d:Nat):PV l.reverse d=PV l d:=yB fun _ _ _ _ _ _=>
 ⟨fun⟨m,hm,h⟩=>⟨m,List.mem_reverse.1 hm,h⟩,fun⟨m,hm,h⟩=>⟨m,List.mem_reverse.2 hm,h⟩⟩
theorem yq(l:List Mn)(hl:l≠[])(h:∀p∈l,SmP text p.1 p.2):SmP text (aW (l.map (·.1))) (PV (l.map (·.2))):=by
 have key:∀L:List (It×(Nat->Rl)),L≠[]->(∀p∈L,Sm text p.1.len p.1.dd p.1.em p.2)->Sm text (dI (L.map (·.1))+(L.length-1)) (ddL (L.map (·.1))) (dA (L.map (·.1))) (lh (L.map (·.2))):=fun L hL hh=>by
  cases L with
  | nil=>exact absurd rfl hL
  | cons p L=>exact AE p L hh
 have q:=key ((l.map fun p=>(p.1.it,p.2)).reverse) (by simpa using hl) (fun p hp=>by
  obtain⟨r,hr,rfl⟩:=List.mem_map.1 (List.mem_reverse.1 hp)
  exact h r hr)
 rw[RM,RM,DJ,BS,Ri,Ri,List.length_reverse,Q7] at q;have e2:lh (l.map ((·.2) ∘ fun p:Mn=>(p.1.it,p.2))).reverse=PV (l.map (·.2)):=by
  funext d
  rw[uS (by simpa using hl),NK]
  rfl
 rw[e2] at q;unfold SmP aW eP It.pi;rw[Ri,Q7];exact q
end
theorem Ic{P:Program}{ops:Array Oper}{o:Oper}{a:Act}{w:World}{K:Act->World->Prop}{Q:Exit->Act->World->Prop}{E:Prop}(hgd:o.guard=none)(sl x:Operand)(t u:TypeId)(ho:o.op=.call { callee:=.builtin .append,args:=#[sl,x],argTypes:=#[t,u]})(base:Nat)(e:TypeId)(i:TypeInfo)(ht:P.underlying t=some (.slice e))(hu:P.underlying u=some .string)(hi:P.info? e=some i)(hz:i.zero=some (.int .u8 0))(hsize:i.size=1)(hby:i.bytes=1)(v:Value)(n:Nat)(xs:List Value)(hs:a.eval sl=v)(hown:w.ownsRow base e 1 v n xs)(s:ByteArray)(hx:a.eval x=.string s)(h63:n+s.size<=1000000)(hbase:base<=w.heap.size)(h:∀v' w',w'.ownsRow base e 1 v' (n+s.size) (xs++Lib.byteCells s.data.toList)->w.grownBy w' v.ownBlock->(∀g,v'.ownBlock=some g->v.ownBlock=some g\/w.heap.size<=g)->K (a.put o.dst v') w'):if Region.wanted o (yielded ops a.tmps)=true then Oper.wp P o a w K Q else E:=by
 have hw:Region.wanted o (yielded ops a.tmps)=true:=by simp[Region.wanted,hgd]
 rw[QB hw];obtain⟨v',w',hr,h2,h3,h4⟩:=C8 (P:=P) (ty:=o.type) ht hu hi hz hsize hby hown s h63 hbase;unfold Oper.wp;simp[execOp,ho,resolve,invoke,builtin,hs,hx,hr,Result.andThen];exact h v' w' h2 h3 h4
structure Cs(lo:Nat)(w:World)(v:Value)(xs:List UInt8)(w':World)(v':Value)(ys:List UInt8):Prop where
 row:w'.ownsRow lo 5 1 v' ys.length (Lib.byteCells ys)
 kp:Kp v.ownBlock.toList w w'
 at_:∀g,v'.ownBlock=some g->v.ownBlock=some g\/w.heap.size<=g
 lo:lo<=w'.heap.size
theorem Cs.refl{lo:Nat}{w:World}{v:Value}{xs:List UInt8}(h:w.ownsRow lo 5 1 v xs.length (Lib.byteCells xs))(hl:lo<=w.heap.size):Cs lo w v xs w v xs:=⟨h,Kp.refl _ _,fun _ e=>.inl e,hl⟩
theorem Cs.aj{lo:Nat}{w w1 w2:World}{v v1:Value}{xs ys:List UInt8}(h:Cs lo w v xs w1 v1 ys)(k:Kp [] w1 w2):Cs lo w v xs w2 v1 ys:=
 ⟨ag h.row (fun p hp=>k.block p (aA h.row hp).2 (by simp)),h.kp.trans (k.mono (by simp)),h.at_,QC h.lo k.size⟩
theorem Cs.more{lo:Nat}{w w1 w2:World}{v v1 v2:Value}{xs ys zs:List UInt8}(h:Cs lo w v xs w1 v1 ys)(ho:w2.ownsRow lo 5 1 v2 (ys.length+zs.length) (Lib.byteCells ys++Lib.byteCells zs))(hg:w1.grownBy w2 v1.ownBlock)(hl:∀g,v2.ownBlock=some g->v1.ownBlock=some g\/w1.heap.size<=g):Cs lo w v xs w2 v2 (ys++zs):=by
 have e:Lib.byteCells (ys++zs)=Lib.byteCells ys++Lib.byteCells zs:=by simp[Lib.byteCells]
 have kg:=aX (S:=v1.ownBlock.toList) hg (fun p hp=>by rw[hp];simp);refine⟨by rw[e,Qy];exact ho,h.kp.past kg (fun x hx=>?_),fun g e=>?_,QC h.lo hg.size⟩
 .have hx:v1.ownBlock=some x:=by simpa using hx
  rcases h.at_ x hx with r|r
  .exact .inl (by simpa using r)
  .exact .inr r
 .rcases hl g e with r|r
  .exact h.at_ g r
  .exact .inr (QC h.kp.size r)
theorem Cs.cell{lo:Nat}{w w1:World}{v v1:Value}{xs ys:List UInt8}(h:Cs lo w v xs w1 v1 ys){p:Addr}{u:Value}(hc:w.cell? p=some u)(hn:v.ownBlock≠some p.block):w1.cell? p=some u:=
 (h.kp.cell (World.block_lt_of_cell? _ _ hc) (by simpa using hn)).trans hc
end Go.Proofs.YtiahkfoojjpaaaaGreatDoor
namespace Go.Proofs.YtiahkfoojjpaaaaGreatDoor
open Go.RowKit Go.Shelf
attribute [local go_sem] Oper.semAt_some
variable {Z:List (Nat×Obj)}
def Kr(W:World)(n:Nat):World:={ W with heap:=W.heap.extract 0 n}
theorem lC{W:World}{n:Nat}(h:n<=W.heap.size):(Kr W n).heap.size=n:=by
 show(W.heap.extract 0 n).size=n;rw[Array.size_extract];omega
theorem D5{W:World}{n j:Nat}(h:n<=W.heap.size)(hj:j<n):(Kr W n).heap[j]? = W.heap[j]?:=by
 show(W.heap.extract 0 n)[j]? = _;rw[Array.getElem?_extract,QB (by omega)]
 congr 1;omega
theorem cutW_kp{W:World}{n:Nat}(h:n<=W.heap.size):Kp [] (Kr W n) W:=
 ⟨rfl,rfl,rfl,by rw[lC h];exact h,fun j hj _=>(D5 h (by rw[lC h] at hj;exact hj)).symm⟩
theorem Cd.blocks{w w2:World}{p g c n D:Nat}{cd:Nat->In}(h:Cd w p g c n D cd)(e1:w2.heap[p]? = w.heap[p]?)(e2:w2.heap[g]? = w.heap[g]?):Cd w2 p g c n D cd:=by
 have cg:∀i,w2.cell? ⟨g,i,none⟩=w.cell? ⟨g,i,none⟩:=fun i=>World.cell?_of_block e2;have cp:∀i,w2.cell? ⟨p,i,none⟩=w.cell? ⟨p,i,none⟩:=fun i=>World.cell?_of_block e1;have l1:p<w2.heap.size:=lt_of_block (e1.trans (QR h.hp));have l2:g<w2.heap.size:=lt_of_block (e2.trans (QR h.hg))
 exact⟨l1,l2,(cp _).trans h.p0,(cp _).trans h.p3,fun a ha=>(cg _).trans (h.k0 a ha),fun a ha=>(cg _).trans (h.k1 a ha),fun a ha=>(cg _).trans (h.k2 a ha),fun a ha=>(cg _).trans (h.k3 a ha),fun a ha=>(cg _).trans (h.k4 a ha),
  fun a ha=>(cg _).trans (h.k5 a ha),fun a ha=>(cg _).trans (h.k6 a ha),fun a ha=>(cg _).trans (h.k7 a ha),fun a ha=>(cg _).trans (h.k8 a ha),h.ok⟩
section
variable {w W W':World}{f p sb N pl:Nat}{text:ByteArray}{here:List Thr}{v3 v4 v5:Value}{s:Mc}
theorem Fg.IU{S:List Nat}{Z2:List (Nat×Obj)}(h:Fg Z w W f p sb N pl text here v3 v4 v5 s)(k:Kp S W W')(hS:∀T∈S,T<w.heap.size\/∃o,(T,o)∈Z)(hZ:∀e∈Z2,W'.heap[e.1]? = some e.2/\((∃o,(e.1,o)∈Z)\/W.heap.size<=e.1)):Fg Z2 (Kr W' w.heap.size) W' f p sb N pl text here v3 v4 v5 s:=by
 have hz:w.heap.size<=W'.heap.size:=QC h.kp.size k.size;have hsz:=lC hz;have hf:=h.flt;have nS:∀T,w.heap.size<=T->(∀e∈Z,e.1≠T)->T∉S:=fun T hT hn m=>by
  rcases hS T m with q|⟨o,q⟩
  .omega
  .exact hn _ q rfl
 have hfS:f∉S:=nS f h.flo (fun e he=>(h.fx e he).2.1);have hsS:sb∉S:=nS sb h.slo (fun e he=>(h.fx e he).2.2.1);have n3:∀j,v3.ownBlock=some j->j∉S:=fun j hj=>nS j (h.o3.lt j hj).1 (fun e he q=>(h.fx e he).2.2.2.1 (by rw[q];exact hj));have n4:∀j,v4.ownBlock=some j->j∉S:=fun j hj=>nS j (h.o4.lt j hj).1 (fun e he q=>(h.fx e he).2.2.2.2.1 (by rw[q];exact hj));have n5:∀j,v5.ownBlock=some j->j∉S:=fun j hj=>nS j (h.o5.lt j hj).1 (fun e he q=>(h.fx e he).2.2.2.2.2 (by rw[q];exact hj));have cf:∀i,W'.cell? ⟨f,i,none⟩=W.cell? ⟨f,i,none⟩:=fun i=>k.cell (p:=⟨f,i,none⟩) hf hfS;have ff:∀i,W'.frozen? ⟨f,i,none⟩=W.frozen? ⟨f,i,none⟩:=fun i=>k.frozen (p:=⟨f,i,none⟩) hf hfS;have z3:∀e∈Z2,e.1≠f/\e.1≠sb/\v3.ownBlock≠some e.1/\v4.ownBlock≠some e.1/\v5.ownBlock≠some e.1:=fun e he=>by
  rcases(hZ e he).2 with⟨o,q⟩|q
  .exact(h.fx _ q).2
  .have:=h.slt;exact⟨by omega,by omega,fun r=>by have:=(h.o3.lt _ r).2;omega,fun r=>by have:=(h.o4.lt _ r).2;omega,fun r=>by have:=(h.o5.lt _ r).2;omega⟩
 refine⟨cutW_kp hz,by rw[hsz];exact h.flo,by rw[hsz];exact h.slo,h.ne,(cf _).trans h.c0,(cf _).trans h.c1,(cf _).trans h.c2,(cf _).trans h.c3,(cf _).trans h.c4,(cf _).trans h.c5,(cf _).trans h.c6,(cf _).trans h.c7,fun j v hv=>(cf _).trans (h.fc j v hv),fun i=>(ff i).trans (h.free i),Qx h.slt k.size,fun i hi=>?_,
  by rw[hsz];exact au h.o3 (fun j hj hl=>k.block j hl (n3 j hj)),by rw[hsz];exact au h.o4 (fun j hj hl=>k.block j hl (n4 j hj)),by rw[hsz];exact au h.o5 (fun j hj hl=>k.block j hl (n5 j hj)),h.x3,h.x4,h.x5,fun e he=>⟨(hZ e he).1,z3 e he⟩⟩
 have q:=h.seen i hi;exact⟨(k.cell (p:=⟨sb,i,none⟩) h.slt hsS).trans q.1,(k.frozen (p:=⟨sb,i,none⟩) h.slt hsS).trans q.2⟩
end
