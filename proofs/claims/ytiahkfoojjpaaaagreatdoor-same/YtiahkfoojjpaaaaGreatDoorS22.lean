import Derived.Test.YtiahkfoojjpaaaaGreatDoorS21
set_option maxRecDepth 100000
set_option maxHeartbeats 16000000
set_option linter.all false
namespace Go.Proofs.YtiahkfoojjpaaaaGreatDoor
open Go.RowKit Go.MapKept
section
variable {w0 w w1 w2:World}{b k g cap:Nat}{src:ByteArray}{σ:Sst}{cv:List Value}
theorem Ig(b:Nat)(σ:Sst)(l:List (ByteArray×Nat)):srB b { σ with ls:=l}=srB b σ:=by
 funext i
 rcases i with _|_|_|_|_|_|_|_|i<;>rfl
theorem Sr.MO{x:ByteArray}(h:Sr w0 w b src k σ)(n:Nat)(kp:Kp [σ.lb] w w1)(hm:w1.heap[σ.lb]? = some (Py (σ.ls++[(x,n)]))):Sr w0 w1 b src k { σ with ls:=σ.ls++[(x,n)]}:=by
 have hb:b∉[σ.lb]:=fun e=>by
  have:b=σ.lb:=by simpa using e
  have:=h.r.bk.ne 0 2 b rfl (by rw[this];rfl);omega
 have hh:∀i p,i≠2->srB b σ i=some p->w1.heap[p]? = w.heap[p]?:=fun i p hi hp=>kp.block p (h.r.bk.hi i p hp) (fun e=>hi (h.r.bk.ne i 2 p hp (by simp at e;rw[e];rfl)));have c:=h.c.aj (w':=w1) (fun j _=>kp.cell (p:=⟨b,j,none⟩) h.cur.lt hb);refine⟨h.cur.aj kp hb,⟨c.c2,c.c3,c.c4,c.c5,c.c6,c.c7,c.c8,c.c9,c.c10,c.c11⟩,⟨?_,ag h.r.o4 (fun p hp=>hh 4 p (by omega) hp),ag h.r.o5 (fun p hp=>hh 5 p (by omega) hp),ag h.r.o8 (fun p hp=>hh 6 p (by omega) hp),ag h.r.o11 (fun p hp=>hh 7 p (by omega) hp),(hh 1 _ (by omega) rfl).trans h.r.m7,hm,(hh 3 _ (by omega) rfl).trans h.r.m10,h.r.len,by rw[Ig];exact h.r.bk.grow kp.size,fun f hf=>?_⟩⟩
 .refine⟨kp.os.trans h.r.kp.os,kp.tape.trans h.r.kp.tape,kp.output.trans h.r.kp.output,QC h.r.kp.size kp.size,fun j hj _=>(kp.block j (Qx hj h.r.kp.size) (fun e=>?_)).trans (h.r.kp.block j hj (by simp))⟩;have:=h.r.bk.lo 2 σ.lb rfl;simp at e;omega
 .obtain⟨f1,f2,f3⟩:=h.r.fx f hf;refine⟨(kp.block f.1 (aN f1) (fun e=>f3 2 (by simp at e;rw[e];rfl))).trans f1,f2,by rw[Ig];exact f3⟩
theorem jS(b:Nat)(σ:Sst)(A:Addr)(n c:Nat)(l:List Nat):srB b { σ with vb:=.slice (some A) n c,bs:=l}=fun j=>if j=6 then some A.block else srB b σ j:=by
 funext i
 rcases i with _|_|_|_|_|_|_|_|i<;>simp[srB,Value.ownBlock]
theorem Sr.IX{x:Nat}(h:Sr w0 w b src k σ)(k1:Kp [] w w1)(ho:w2.ownsRow w0.heap.size 3 1 (.slice (some ⟨g,0,none⟩) (σ.bs.length+1) cap) (σ.bs.length+1) ((σ.bs.map fun n:Nat=>Value.int .i64 (n:Int))++[.int .i64 (x:Int)]))(hg:w1.grownBy w2 σ.vb.ownBlock)(hor:σ.vb.ownBlock=some g\/w1.heap.size<=g):Sr w0 (w2.setCell ⟨b,8,none⟩ (.slice (some ⟨g,0,none⟩) (σ.bs.length+1) cap)) b src k { σ with vb:=.slice (some ⟨g,0,none⟩) (σ.bs.length+1) cap,bs:=σ.bs++[x]}:=by
 obtain⟨v,hv⟩:∃v,v=Value.slice (some ⟨g,0,none⟩) (σ.bs.length+1) cap:=⟨_,rfl⟩;have h1:=h.aj k1;have glt:g<w2.heap.size:=(aA ho (g:=g) rfl).2;have bne:∀i p,i≠6->srB b σ i=some p->w2.heap[p]? = w1.heap[p]?:=fun i p hi hp=>hg.block p (h1.r.bk.hi i p hp) (fun e=>hi (h1.r.bk.ne i 6 p hp (by first|exact e|exact e.symm)));have gne:∀i p,i≠6->srB b σ i=some p->p≠g:=fun i p hi hp e=>by
  subst e;rcases hor with q|q
  .exact hi (h1.r.bk.ne i 6 p hp q)
  .have:=h1.r.bk.hi i p hp;omega
 have kb:Kp [b] w2 (w2.setCell ⟨b,8,none⟩ v):=Kp.setCell _ _ (by simp);have bb:∀p,p<w2.heap.size->p≠b->(w2.setCell ⟨b,8,none⟩ v).heap[p]? = w2.heap[p]?:=fun p hp hn=>kb.block p hp (by simpa using hn);have hh:∀i p,0<i->i≠6->srB b σ i=some p->(w2.setCell ⟨b,8,none⟩ v).heap[p]? = w1.heap[p]?:=fun i p h0 hi hp=>
  (bb p (Qx (h1.r.bk.hi i p hp) hg.size) (fun e=>by have:=h1.r.bk.ne i 0 p hp (by rw[e];rfl);omega)).trans (bne i p hi hp)
 have hb2:w2.heap[b]? = w1.heap[b]?:=bne 0 b (by omega) rfl;have hc2:∀j,w2.cell? ⟨b,j,none⟩=w1.cell? ⟨b,j,none⟩:=fun j=>World.cell?_of_block hb2;have hf2:∀j,w2.frozen? ⟨b,j,none⟩=w1.frozen? ⟨b,j,none⟩:=fun j=>World.frozen?_of_block hb2;have hc:∀j,j≠8->(w2.setCell ⟨b,8,none⟩ v).cell? ⟨b,j,none⟩=w1.cell? ⟨b,j,none⟩:=fun j hj=>(aq _ (fun e=>by injection e with _ e2 _;exact hj e2.symm)).trans (hc2 j);have gb:g≠b:=fun e=>gne 0 b (by omega) rfl e.symm;rw[<-hv] at ho ⊢;have eB:srB b { σ with vb:=v,bs:=σ.bs++[x]}=fun j=>if j=6 then some g else srB b σ j:=by rw[hv];exact jS b σ _ _ _ _
 refine⟨⟨Qx (Qx h1.cur.lt hg.size) kb.size,h1.cur.le,h1.cur.small,(hc _ (by omega)).trans h1.cur.c0,(hc _ (by omega)).trans h1.cur.c1,fun i=>?_⟩,⟨(hc _ (by omega)).trans h1.c.c2,(hc _ (by omega)).trans h1.c.c3,(hc _ (by omega)).trans h1.c.c4,(hc _ (by omega)).trans h1.c.c5,(hc _ (by omega)).trans h1.c.c6,(hc _ (by omega)).trans h1.c.c7,aw _ ((hc2 8).trans h1.c.c8),(hc _ (by omega)).trans h1.c.c9,(hc _ (by omega)).trans h1.c.c10,(hc _ (by omega)).trans h1.c.c11⟩,⟨?_,ag h1.r.o4 (fun p hp=>hh 4 p (by omega) (by omega) hp),ag h1.r.o5 (fun p hp=>hh 5 p (by omega) (by omega) hp),?_,ag h1.r.o11 (fun p hp=>hh 7 p (by omega) (by omega) hp),(hh 1 _ (by omega) (by omega) rfl).trans h1.r.m7,(hh 2 _ (by omega) (by omega) rfl).trans h1.r.m9,(hh 3 _ (by omega) (by omega) rfl).trans h1.r.m10,h1.r.len,?_,?_⟩⟩
 .have e1:(w2.setCell ⟨b,8,none⟩ v).frozen? ⟨b,i,none⟩=w2.frozen? ⟨b,i,none⟩:=by simp
  rw[e1,hf2];exact h1.cur.free i
 .refine⟨kb.os.trans (hg.os.trans h1.r.kp.os),kb.tape.trans (hg.tape.trans h1.r.kp.tape),kb.output.trans (hg.output.trans h1.r.kp.output),QC h1.r.kp.size (QC hg.size kb.size),fun j hj _=>?_⟩;have hj1:j<w1.heap.size:=Qx hj h1.r.kp.size;refine(bb j (Qx hj1 hg.size) (fun e=>?_)).trans ((hg.block j hj1 (fun e=>?_)).trans (h1.r.kp.block j hj (by simp)))
  .have:=h1.r.bk.lo 0 b rfl;omega
  .have:=h1.r.bk.lo 6 j (by first|exact e|exact e.symm);omega
 .have ho2:=ag (w':=w2.setCell ⟨b,8,none⟩ v) ho (fun p hp=>by
   rw[hv] at hp;have:g=p:=by simpa[Value.ownBlock] using hp
   subst this
   exact bb g glt gb)
  rw[Qy];rw[Q6];simpa using ho2
 .rw[eB];refine h1.r.bk.upd 6 g (QC hg.size kb.size) h1.r.kp.size ?_;rcases hor with q|q
  .exact .inl q
  .exact .inr ⟨q,Qx glt kb.size⟩
 .intro f hm;obtain⟨f1,f2,f3⟩:=h1.r.fx f hm;have flt:=aN f1;have fg:f.1≠g:=fun e=>by
   rcases hor with q|q
   .exact f3 6 (by rw[e];exact q)
   .omega
  refine⟨(bb f.1 (Qx flt hg.size) (fun e=>f3 0 (by rw[e];rfl))).trans ((hg.block f.1 flt (fun e=>f3 6 (by first|exact e|exact e.symm))).trans f1),f2,fun i=>?_⟩;rw[eB];show(if i=6 then some g else srB b σ i)≠_;split
  .intro e;injection e with e;exact fg e.symm
  .exact f3 i
theorem nZ(b:Nat)(σ:Sst)(A:Addr)(n c:Nat)(l:List (Nat×Nat)):srB b { σ with vg:=.slice (some A) n c,gs:=l}=fun j=>if j=7 then some A.block else srB b σ j:=by
 funext i
 rcases i with _|_|_|_|_|_|_|_|i<;>simp[srB,Value.ownBlock]
theorem Sr.pushGoal{x:Nat×Nat}(h:Sr w0 w b src k σ)(k1:Kp [] w w1)(ho:w2.ownsRow w0.heap.size 164 2 (.slice (some ⟨g,0,none⟩) (σ.gs.length+1) cap) (σ.gs.length+1) ((σ.gs.flatMap fun p:Nat×Nat=>[Value.int .i64 (p.1:Int),.int .i64 (p.2:Int)])++[.int .i64 (x.1:Int),.int .i64 (x.2:Int)]))(hg:w1.grownBy w2 σ.vg.ownBlock)(hor:σ.vg.ownBlock=some g\/w1.heap.size<=g):Sr w0 (w2.setCell ⟨b,11,none⟩ (.slice (some ⟨g,0,none⟩) (σ.gs.length+1) cap)) b src k { σ with vg:=.slice (some ⟨g,0,none⟩) (σ.gs.length+1) cap,gs:=σ.gs++[x]}:=by
 obtain⟨v,hv⟩:∃v,v=Value.slice (some ⟨g,0,none⟩) (σ.gs.length+1) cap:=⟨_,rfl⟩;have h1:=h.aj k1;have glt:g<w2.heap.size:=(aA ho (g:=g) rfl).2;have bne:∀i p,i≠7->srB b σ i=some p->w2.heap[p]? = w1.heap[p]?:=fun i p hi hp=>hg.block p (h1.r.bk.hi i p hp) (fun e=>hi (h1.r.bk.ne i 7 p hp (by first|exact e|exact e.symm)));have gne:∀i p,i≠7->srB b σ i=some p->p≠g:=fun i p hi hp e=>by
  subst e;rcases hor with q|q
  .exact hi (h1.r.bk.ne i 7 p hp q)
  .have:=h1.r.bk.hi i p hp;omega
 have kb:Kp [b] w2 (w2.setCell ⟨b,11,none⟩ v):=Kp.setCell _ _ (by simp);have bb:∀p,p<w2.heap.size->p≠b->(w2.setCell ⟨b,11,none⟩ v).heap[p]? = w2.heap[p]?:=fun p hp hn=>kb.block p hp (by simpa using hn);have hh:∀i p,0<i->i≠7->srB b σ i=some p->(w2.setCell ⟨b,11,none⟩ v).heap[p]? = w1.heap[p]?:=fun i p h0 hi hp=>
  (bb p (Qx (h1.r.bk.hi i p hp) hg.size) (fun e=>by have:=h1.r.bk.ne i 0 p hp (by rw[e];rfl);omega)).trans (bne i p hi hp)
 have hb2:w2.heap[b]? = w1.heap[b]?:=bne 0 b (by omega) rfl;have hc2:∀j,w2.cell? ⟨b,j,none⟩=w1.cell? ⟨b,j,none⟩:=fun j=>World.cell?_of_block hb2;have hf2:∀j,w2.frozen? ⟨b,j,none⟩=w1.frozen? ⟨b,j,none⟩:=fun j=>World.frozen?_of_block hb2;have hc:∀j,j≠11->(w2.setCell ⟨b,11,none⟩ v).cell? ⟨b,j,none⟩=w1.cell? ⟨b,j,none⟩:=fun j hj=>(aq _ (fun e=>by injection e with _ e2 _;exact hj e2.symm)).trans (hc2 j);have gb:g≠b:=fun e=>gne 0 b (by omega) rfl e.symm;rw[<-hv] at ho ⊢;have eB:srB b { σ with vg:=v,gs:=σ.gs++[x]}=fun j=>if j=7 then some g else srB b σ j:=by rw[hv];exact nZ b σ _ _ _ _
 refine⟨⟨Qx (Qx h1.cur.lt hg.size) kb.size,h1.cur.le,h1.cur.small,(hc _ (by omega)).trans h1.cur.c0,(hc _ (by omega)).trans h1.cur.c1,fun i=>?_⟩,⟨(hc _ (by omega)).trans h1.c.c2,(hc _ (by omega)).trans h1.c.c3,(hc _ (by omega)).trans h1.c.c4,(hc _ (by omega)).trans h1.c.c5,(hc _ (by omega)).trans h1.c.c6,(hc _ (by omega)).trans h1.c.c7,(hc _ (by omega)).trans h1.c.c8,(hc _ (by omega)).trans h1.c.c9,(hc _ (by omega)).trans h1.c.c10,aw _ ((hc2 11).trans h1.c.c11)⟩,⟨?_,ag h1.r.o4 (fun p hp=>hh 4 p (by omega) (by omega) hp),ag h1.r.o5 (fun p hp=>hh 5 p (by omega) (by omega) hp),ag h1.r.o8 (fun p hp=>hh 6 p (by omega) (by omega) hp),?_,(hh 1 _ (by omega) (by omega) rfl).trans h1.r.m7,(hh 2 _ (by omega) (by omega) rfl).trans h1.r.m9,(hh 3 _ (by omega) (by omega) rfl).trans h1.r.m10,h1.r.len,?_,?_⟩⟩
 .have e1:(w2.setCell ⟨b,11,none⟩ v).frozen? ⟨b,i,none⟩=w2.frozen? ⟨b,i,none⟩:=by simp
  rw[e1,hf2];exact h1.cur.free i
 .refine⟨kb.os.trans (hg.os.trans h1.r.kp.os),kb.tape.trans (hg.tape.trans h1.r.kp.tape),kb.output.trans (hg.output.trans h1.r.kp.output),QC h1.r.kp.size (QC hg.size kb.size),fun j hj _=>?_⟩;have hj1:j<w1.heap.size:=Qx hj h1.r.kp.size;refine(bb j (Qx hj1 hg.size) (fun e=>?_)).trans ((hg.block j hj1 (fun e=>?_)).trans (h1.r.kp.block j hj (by simp)))
  .have:=h1.r.bk.lo 0 b rfl;omega
  .have:=h1.r.bk.lo 7 j (by first|exact e|exact e.symm);omega
 .have ho2:=ag (w':=w2.setCell ⟨b,11,none⟩ v) ho (fun p hp=>by
   rw[hv] at hp;have:g=p:=by simpa[Value.ownBlock] using hp
   subst this
   exact bb g glt gb)
  rw[Qy];rw[SP];simpa using ho2
 .rw[eB];refine h1.r.bk.upd 7 g (QC hg.size kb.size) h1.r.kp.size ?_;rcases hor with q|q
  .exact .inl q
  .exact .inr ⟨q,Qx glt kb.size⟩
 .intro f hm;obtain⟨f1,f2,f3⟩:=h1.r.fx f hm;have flt:=aN f1;have fg:f.1≠g:=fun e=>by
   rcases hor with q|q
   .exact f3 7 (by rw[e];exact q)
   .omega
  refine⟨(bb f.1 (Qx flt hg.size) (fun e=>f3 0 (by rw[e];rfl))).trans ((hg.block f.1 flt (fun e=>f3 7 (by first|exact e|exact e.symm))).trans f1),f2,fun i=>?_⟩;rw[eB];show(if i=7 then some g else srB b σ i)≠_;split
  .intro e;injection e with e;exact fg e.symm
  .exact f3 i
theorem Jc{base size n m:Nat}{e:TypeId}{A:Option Addr}{c:Nat}{xs:List Value}(h:w.ownsRow base e size (.slice A n c) n xs)(hm:m<=n):w.ownsRow base e size (.slice A m c) m (xs.take (m*size)):=by
 have hms:m*size<=n*size:=QN _ hm;refine⟨by rw[Re,h.1];omega,?_⟩;rcases h.2 with⟨q1,q2⟩|⟨g,cap,cur,q1,q2,q3,q4,q5,q6,q7⟩
 .injection q1 with e1 e2 e3;exact .inl ⟨by rw[e1,e3,show m=0 by omega],by omega⟩
 .injection q1 with e1 e2 e3;refine .inr ⟨g,cap,cur,by rw[e1,e3],q2,q3,by omega,q5,q6,?_⟩;rw[<-q7,List.take_take,Nat.min_eq_left hms]
theorem AD(b:Nat)(σ:Sst)(A:Option Addr)(n c m:Nat)(l:List Nat)(h:σ.vb=.slice A n c):srB b { σ with vb:=.slice A m c,bs:=l}=srB b σ:=by
 funext i
 rcases i with _|_|_|_|_|_|_|_|i<;>simp[srB,h]
 cases A<;>rfl
theorem Sr.MR{A:Option Addr}{c m:Nat}{l:List Nat}{x:Nat}(h:Sr w0 w b src k σ)(hv:σ.vb=.slice A (m+1) c)(hl:σ.bs=l++[x])(hm:l.length=m):Sr w0 (w.setCell ⟨b,8,none⟩ (.slice A m c)) b src k { σ with vb:=.slice A m c,bs:=l}:=by
 have kb:Kp [b] w (w.setCell ⟨b,8,none⟩ (.slice A m c)):=Kp.setCell _ _ (by simp)
 have hh:∀i p,0<i->srB b σ i=some p->(w.setCell ⟨b,8,none⟩ (.slice A m c)).heap[p]? = w.heap[p]?:=fun i p h0 hp=>kb.block p (h.r.bk.hi i p hp) (fun e=>by
  have:p=b:=by simpa using e
  have:=h.r.bk.ne i 0 p hp (by rw[this];rfl);omega)
 have hc:∀j,j≠8->(w.setCell ⟨b,8,none⟩ (.slice A m c)).cell? ⟨b,j,none⟩=w.cell? ⟨b,j,none⟩:=fun j hj=>aq _ (fun e=>by injection e with _ e2 _;exact hj e2.symm);have o8:=h.r.o8;rw[hv,hl,Qy,hm] at o8;have o8':=Jc (m:=m) o8 (by omega);rw[Q6,Nat.mul_one,List.take_left' (by simpa using hm)] at o8';refine⟨⟨Qx h.cur.lt kb.size,h.cur.le,h.cur.small,(hc _ (by omega)).trans h.cur.c0,(hc _ (by omega)).trans h.cur.c1,fun i=>?_⟩,⟨(hc _ (by omega)).trans h.c.c2,(hc _ (by omega)).trans h.c.c3,(hc _ (by omega)).trans h.c.c4,(hc _ (by omega)).trans h.c.c5,(hc _ (by omega)).trans h.c.c6,(hc _ (by omega)).trans h.c.c7,aw _ h.c.c8,(hc _ (by omega)).trans h.c.c9,(hc _ (by omega)).trans h.c.c10,(hc _ (by omega)).trans h.c.c11⟩,⟨?_,ag h.r.o4 (fun p hp=>hh 4 p (by omega) hp),ag h.r.o5 (fun p hp=>hh 5 p (by omega) hp),?_,ag h.r.o11 (fun p hp=>hh 7 p (by omega) hp),(hh 1 _ (by omega) rfl).trans h.r.m7,(hh 2 _ (by omega) rfl).trans h.r.m9,(hh 3 _ (by omega) rfl).trans h.r.m10,h.r.len,by rw[AD b σ A (m+1) c m l hv];exact h.r.bk.grow kb.size,fun f hf=>?_⟩⟩
 .have e1:(w.setCell ⟨b,8,none⟩ (.slice A m c)).frozen? ⟨b,i,none⟩=w.frozen? ⟨b,i,none⟩:=by simp
  rw[e1];exact h.cur.free i
 .refine⟨kb.os.trans h.r.kp.os,kb.tape.trans h.r.kp.tape,kb.output.trans h.r.kp.output,QC h.r.kp.size kb.size,fun j hj _=>(kb.block j (Qx hj h.r.kp.size) (fun e=>?_)).trans (h.r.kp.block j hj (by simp))⟩;have:=h.r.bk.lo 0 b rfl;simp at e;omega
 .rw[hm]
  exact ag o8' (fun p hp=>hh 6 p (by omega) (by
   show σ.vb.ownBlock=some p;rw[hv]
   cases A with
   | none=>cases hp
   | some a=>exact hp))
 .obtain⟨f1,f2,f3⟩:=h.r.fx f hf;exact⟨(kb.block f.1 (aN f1) (fun e=>f3 0 (by simp at e;rw[e];rfl))).trans f1,f2,by rw[AD b σ A (m+1) c m l hv];exact f3⟩
theorem qw{n:Nat}(v:Value):∀(cs:List (List Value)) (i j:Nat) (c:List Value),(∀c∈cs,c.length=n)->cs[i]? = some c->j<n->cs.flatten.set (i*n+j) v=(cs.set i (c.set j v)).flatten
 | [],i,_,_,_,h,_=>by simp at h
 | d::cs,0,j,c,hl,h,hj=>by
  injection h with h;subst h;have:=hl d (by simp);rw[Rf,Sb,QH,List.set_append_left _ _ (by omega),Qu,Rf]
 | d::cs,i+1,j,c,hl,h,hj=>by
  have:=hl d (by simp);rw[Rf,RV _ _ (by rw[this,QY];omega),Qv,Rf,<-qw v cs i j c (fun c hc=>hl c (by simp[hc])) h hj,this,show(i+1)*n+j-n=i*n+j by rw[QY];omega]
theorem Sr.Ip{i j:Nat}{c:List Value}{v:Value}(h:Sr w0 w b src k σ)(hv:σ.vc=.slice (some ⟨g,0,none⟩) σ.cs.length cap)(hi:σ.cs[i]? = some c)(hj:j<23)(h1:v.oneCell'=true):Sr w0 (w.setCell ⟨g,i*23+j,none⟩ v) b src k { σ with cs:=σ.cs.set i (c.set j v)}:=by
 have kb:Kp [g] w (w.setCell ⟨g,i*23+j,none⟩ v):=Kp.setCell _ _ (by simp);have hgk:srB b σ 4=some g:=by show σ.vc.ownBlock=some g;rw[hv];rfl
 have hgb:g≠b:=fun e=>by have:=h.r.bk.ne 4 0 g hgk (by rw[e];rfl);omega
 have hh:∀i' p,i'≠4->srB b σ i'=some p->(w.setCell ⟨g,i*23+j,none⟩ v).heap[p]? = w.heap[p]?:=fun i' p h0 hp=>kb.block p (h.r.bk.hi i' p hp) (fun e=>h0 (h.r.bk.ne i' 4 p hp (by
  have:p=g:=by simpa using e
  rw[this];exact hgk)))
 have hc:∀q,(w.setCell ⟨g,i*23+j,none⟩ v).cell? ⟨b,q,none⟩=w.cell? ⟨b,q,none⟩:=fun q=>kb.cell (p:=⟨b,q,none⟩) h.cur.lt (by simpa using hgb.symm);have eB:srB b { σ with cs:=σ.cs.set i (c.set j v)}=srB b σ:=by
  funext q
  rcases q with _|_|_|_|_|_|_|_|q<;>rfl
 have o4:=h.r.o4;rw[hv] at o4;have o4':=(o4.stored (i*23+j) v).1;rw[qw v σ.cs i j c (fun c hc=>(h.r.len c hc).1) hi hj] at o4';have cs:=h.c.aj (w':=w.setCell ⟨g,i*23+j,none⟩ v) (fun q _=>hc q);refine⟨h.cur.aj kb (by simpa using hgb.symm),⟨cs.c2,cs.c3,cs.c4,cs.c5,cs.c6,cs.c7,cs.c8,cs.c9,cs.c10,cs.c11⟩,⟨?_,?_,ag h.r.o5 (fun p hp=>hh 5 p (by omega) hp),ag h.r.o8 (fun p hp=>hh 6 p (by omega) hp),ag h.r.o11 (fun p hp=>hh 7 p (by omega) hp),(hh 1 _ (by omega) rfl).trans h.r.m7,(hh 2 _ (by omega) rfl).trans h.r.m9,(hh 3 _ (by omega) rfl).trans h.r.m10,fun d hd=>?_,by rw[eB];exact h.r.bk.grow kb.size,fun f hf=>?_⟩⟩
 .refine⟨kb.os.trans h.r.kp.os,kb.tape.trans h.r.kp.tape,kb.output.trans h.r.kp.output,QC h.r.kp.size kb.size,fun q hq _=>(kb.block q (Qx hq h.r.kp.size) (fun e=>?_)).trans (h.r.kp.block q hq (by simp))⟩;have:=h.r.bk.lo 4 g hgk;simp at e;omega
 .show(w.setCell ⟨g,i*23+j,none⟩ v).ownsRow w0.heap.size 93 23 σ.vc (σ.cs.set i (c.set j v)).length _;rw[Rg,hv];exact o4'
 .rcases Rm hd with q|q
  .exact h.r.len d q
  .obtain⟨l1,l2⟩:=h.r.len c (QM hi);rw[q];refine⟨by rw[Rg];exact l1,fun u hu=>?_⟩;rcases Rm hu with q|q
   .exact l2 u q
   .rw[q];exact h1
 .obtain⟨f1,f2,f3⟩:=h.r.fx f hf
  exact⟨(kb.block f.1 (aN f1) (fun e=>f3 4 (by
   have:f.1=g:=by simpa using e
   rw[this];exact hgk))).trans f1,f2,by rw[eB];exact f3⟩
end
theorem Tryz.NX:(Tryz.prog.info? 3).map (fun i=>(i.zero,i.size,i.bytes))=some (some (.int .i64 0),1,8):=by kernel_rfl
theorem Tryz.NZ:(Tryz.prog.info? 164).map (fun i=>(i.zero,i.size,i.bytes))=some (some (.agg #[.int .i64 0,.int .i64 0]),2,16):=by kernel_rfl
section
variable {w0 w:World}{b k:Nat}{src:ByteArray}{σ:Sst}
theorem fY{base size n:Nat}{e:TypeId}{v:Value}{xs:List Value}(h:w.ownsRow base e size v n xs)(hn:0<n):∃g cap,v=.slice (some ⟨g,0,none⟩) n cap:=by
 rcases h.2 with⟨_,h0⟩|⟨g,cap,cur,hv,_⟩
 .omega
 .exact⟨g,cap,hv⟩
def Opens(σ:Sst)(cv:List Value)(σ':Sst)(cv':List Value):Prop:=(∃v,σ'={ σ with vb:=v,bs:=σ.bs++[σ.cs.length]})/\cv'=cv
theorem op_open(h8:σ.bs.length<8)(_:σ.cs.length<=2000):Ek w0 92 b src k k σ Opens:=by
 intro w cb cv hs hb hl _ hf _;have hne:cb≠b:=fun e=>hf.bk 0 (by rw[e];rfl);obtain⟨A,c,ev,_,_⟩:=aZ hs.r.o8;obtain⟨A4,c4',ev4,_,_⟩:=aZ hs.r.o4;have c8:=hs.c.c8;rw[ev] at c8;have q8:((σ.bs.length:Int)==8)=false:=by rw[Qz];omega
 obtain⟨i0,hi,hz0,hz1,hz2⟩:=info_parts Tryz.NX;have HI:=hid (And.intro hi (And.intro hz0 (And.intro hz1 hz2)));clear hi hz0 hz1 hz2;go_enter Tryz.func92,Tryz.ntmps92
 go_upto_region 2 with fail
 refine az (fun w':World=>w'.cell? ⟨b,8,none⟩=some σ.vb/\w'.cell? ⟨b,4,none⟩=some (.slice A4 σ.cs.length c4')) 15 (by kernel_rfl) ?_;have s3:=hs.aj (Kp.drew [] w);have b3:=hb.aj (Kp.drew [] w) (by simp);obtain⟨w3,hw3⟩:∃w3,w3=w.drew:=⟨_,rfl⟩;rw[<-hw3] at s3 b3 ⊢;clear hw3 hs hb c8;have hS:(fun w':World=>w'.cell? ⟨b,8,none⟩=some σ.vb/\w'.cell? ⟨b,4,none⟩=some (.slice A4 σ.cs.length c4')) w3:=⟨s3.c.c8,by rw[<-ev4];exact s3.c.c4⟩;refine tk1 0 (v:=?_) rfl (by kernel_rfl) (fun _ _ _ h=>h) ⟨rfl,fun w hSw=>?_⟩ hS ?_;rotate_left;· ((try dsimp only at hSw);go_simp;(try with_reducible rfl))
 (try simp only[Qt,Qs,Qr,Act.put,Qq,Qu,Qv])
 refine tk1 1 (v:=?_) rfl (by kernel_rfl) (fun _ _ _ h=>h) ⟨rfl,fun w hSw=>?_⟩ hS ?_;rotate_left;· ((try dsimp only at hSw);go_simp;(try with_reducible rfl))
 (try simp only[Qt,Qs,Qr,Act.put,Qq,Qu,Qv])
 refine tk1 2 (v:=?_) rfl (by kernel_rfl) (fun _ _ _ h=>h) ⟨rfl,fun w hSw=>?_⟩ hS ?_;rotate_left;· ((try dsimp only at hSw);go_simp;(try with_reducible rfl))
 (try simp only[Qt,Qs,Qr,Act.put,Qq,Qu,Qv])
 refine tk1 3 (v:=?_) rfl (by kernel_rfl) (fun _ _ _ h=>h) ⟨rfl,fun w hSw=>?_⟩ hS ?_;rotate_left;· ((try dsimp only at hSw);go_simp;(try with_reducible rfl))
 (try simp only[Qt,Qs,Qr,Act.put,Qq,Qu,Qv])
 refine tk1 4 (v:=?_) rfl (by kernel_rfl) (fun _ _ _ h=>h) ⟨rfl,fun w hSw=>?_⟩ hS ?_;rotate_left;· ((try dsimp only at hSw);go_simp;(try with_reducible rfl))
 (try simp only[Qt,Qs,Qr,Act.put,Qq,Qu,Qv])
 refine tk1 5 (v:=?_) rfl (by kernel_rfl) (fun _ _ _ h=>h) ⟨rfl,fun w hSw=>?_⟩ hS ?_;rotate_left;· ((try dsimp only at hSw);go_simp;(try with_reducible rfl))
 (try simp only[Qt,Qs,Qr,Act.put,Qq,Qu,Qv])
 refine tk1 6 (v:=?_) rfl (by kernel_rfl) (fun _ _ _ h=>h) ⟨rfl,fun w hSw=>?_⟩ hS ?_;rotate_left;· ((try dsimp only at hSw);go_simp;(try with_reducible rfl))
 (try simp only[Qt,Qs,Qr,Act.put,Qq,Qu,Qv])
 refine tk1 7 (v:=?_) rfl (by kernel_rfl) (fun _ _ _ h=>h) ⟨rfl,fun w hSw=>?_⟩ hS ?_;rotate_left;· ((try dsimp only at hSw);go_simp;(try with_reducible rfl))
 (try simp only[Qt,Qs,Qr,Act.put,Qq,Qu,Qv])
 refine tk1 8 (v:=?_) rfl (by kernel_rfl) (fun _ _ _ h=>h) ⟨rfl,fun w hSw=>?_⟩ hS ?_;rotate_left;· ((try dsimp only at hSw);go_simp;(try with_reducible rfl))
 (try simp only[Qt,Qs,Qr,Act.put,Qq,Qu,Qv])
 refine tk1 9 (v:=?_) rfl (by kernel_rfl) (fun _ _ _ h=>h) ⟨rfl,fun w hSw=>?_⟩ hS ?_;rotate_left;· ((try dsimp only at hSw);go_simp;(try with_reducible rfl))
 (try simp only[Qt,Qs,Qr,Act.put,Qq,Qu,Qv])
 refine tk1 10 (v:=?_) rfl (by kernel_rfl) (fun _ _ _ h=>h) ⟨rfl,fun w hSw=>?_⟩ hS ?_;rotate_left;· ((try dsimp only at hSw);go_simp;(try with_reducible rfl))
 (try simp only[Qt,Qs,Qr,Act.put,Qq,Qu,Qv])
 have ka:=Kp.alloc [] w3 (.cells #[.int .i64 (σ.cs.length:Int)] 3);have s7:=s3.aj ka;have b7:=b3.aj ka (by simp);have hS7:(fun w':World=>w'.cell? ⟨b,8,none⟩=some σ.vb/\w'.cell? ⟨b,4,none⟩=some (.slice A4 σ.cs.length c4')) (w3.alloc (.cells #[.int .i64 (σ.cs.length:Int)] 3)):=⟨s7.c.c8,by rw[<-ev4];exact s7.c.c4⟩;have BN:=Bl.alloc w3 [.int .i64 (σ.cs.length:Int)] 3;refine ai (i:=11) (by kernel_rfl) rfl (fun K hK=>?_);go_simp;refine hK.out _ _ (.inr hS7) ?_;clear hK K;refine ai (i:=12) (by kernel_rfl) rfl (fun K hK=>?_);refine jR (by rfl) (.tmp 22) (.tmp 29) 35 (by rfl) w0.heap.size 3 i0 _ 1 8 Tryz.underlying35 HI.out.1 HI.out.2.1 HI.out.2.2.1 HI.out.2.2.2 rfl (by decide) σ.vb σ.bs.length (σ.bs.map fun n:Nat=>Value.int .i64 (n:Int)) (by rw[ev];rfl) s7.r.o8 ⟨w3.heap.size,0,none⟩ 1 1 [.int .i64 (σ.cs.length:Int)] (by rfl) rfl (fun j u hu=>by rw[Addr.add_mid,QH];exact BN.at_ j u hu) (fun u hu=>by simp at hu;subst hu;rfl) (by unfold maxLen;omega) (by omega) s7.r.kp.size (by omega) ?_
 intro g cap w8 ho8 hg8 hor8;have blt:=s7.cur.lt;have hb2:w8.heap[b]? = (w3.alloc (.cells #[.int .i64 (σ.cs.length:Int)] 3)).heap[b]?:=hg8.block b blt (fun e=>by have:=s7.r.bk.ne 0 6 b rfl (by first|exact e|exact e.symm);omega);have hS8:(fun w':World=>w'.cell? ⟨b,8,none⟩=some σ.vb/\w'.cell? ⟨b,4,none⟩=some (.slice A4 σ.cs.length c4')) w8:=⟨(World.cell?_of_block hb2).trans hS7.1,(World.cell?_of_block hb2).trans hS7.2⟩;have c8:=hS8.1;have f8:w8.frozen? ⟨b,8,none⟩=false:=(World.frozen?_of_block hb2).trans (s7.cur.free 8);have s9:=s3.IX (x:=σ.cs.length) ka ho8 hg8 hor8;have b8:Bl w8 cb cv:=b7.aj (aX (S:=σ.vb.ownBlock.toList) hg8 (fun p hp=>by rw[hp];simp)) (fun hm=>hf.bk 6 (show σ.vb.ownBlock=some cb by simpa using hm));have b9:=b8.aj (Kp.setCell (S:=[b]) (p:=⟨b,8,none⟩) w8 (.slice (some ⟨g,0,none⟩) (σ.bs.length+1) cap) (by simp)) (by simpa using hne);have gfar:cb≠g:=fun e=>by
  rcases hor8 with q|q
  .exact hf.bk 6 (show σ.vb.ownBlock=some cb by rw[e];exact q)
  .have:=b7.lt;omega
 refine hK.out _ _ (.inr hS8) ?_;clear hK K;have S9:=hid s9;have B9:=hid b9;clear s9 b9 ho8 hg8 hor8 s3 b3 b7 b8 ka BN hb2 hS hS7 s7;refine ai (i:=13) (by kernel_rfl) rfl (fun K hK=>?_);go_simp;refine hK.out _ _ (.inr hS8) ?_;clear hK K;refine ai (i:=14) (by kernel_rfl) rfl (fun K hK=>?_);go_simp;refine hK.out _ _ (.inr hS8) ?_;clear hK K;refine ai (i:=15) (by kernel_rfl) rfl (fun K hK=>?_);go_simp;refine hK.out _ _ (.inl rfl) ?_;clear hK K;refine ax (by kernel_rfl) ?_ _;have far':Sr.Far w0 b { σ with vb:=.slice (some ⟨g,0,none⟩) (σ.bs.length+1) cap,bs:=σ.bs++[σ.cs.length]} cb:=by
  refine⟨hf.lo,fun i=>?_,hf.fx⟩;rw[jS b σ ⟨g,0,none⟩ (σ.bs.length+1) cap (σ.bs++[σ.cs.length])];show(if i=6 then some g else srB b σ i)≠_;split
  .intro e;injection e with e;exact gfar e.symm
  .exact hf.bk i
 go_wp2_with fail;go_end0;exact⟨rfl,_,S9.out,cv,B9.out,hl,far',⟨_,rfl⟩,rfl⟩
def Shuts(σ:Sst)(cv:List Value)(σ':Sst)(cv':List Value):Prop:=∃l i c v,σ.bs=l++[i]/\σ.cs[i]? = some c/\σ'={ σ with vb:=v,bs:=l,cs:=σ.cs.set i (c.set 5 (.int .i64 (σ.cs.length:Int)))}/\cv'=cv
theorem op_shut{l:List Nat}{i:Nat}{c:List Value}(hbs:σ.bs=l++[i])(hc:σ.cs[i]? = some c)(hcs:σ.cs.length<=2000)(hls:l.length<=8):Ek w0 93 b src k k σ Shuts:=by
 intro w cb cv hs hb hl _ hf _;have hne:cb≠b:=fun e=>hf.bk 0 (by rw[e];rfl);obtain⟨n,hn⟩:∃n,n=l.length:=⟨_,rfl⟩;have hbl:σ.bs.length=n+1:=by rw[hbs,Qy,hn];rfl
 obtain⟨gb,c8',ev⟩:=fY hs.r.o8 (by omega);have hilt:i<σ.cs.length:=(List.getElem?_eq_some_iff.1 hc).1;obtain⟨g4,c4',ev4⟩:=fY hs.r.o4 (by omega);have o8:=hs.r.o8;rw[hbl] at ev o8;rw[ev] at o8;have hcap:n<=c8':=by
  rcases o8.2 with⟨q,_⟩|⟨_,_,_,q,_,_,q4,_⟩
  .cases q
  .injection q with _ _ e3;omega
 have d8:w.cell? ⟨gb,n,none⟩=some (.int .i64 (i:Int)):=by
  rw[o8.cellAt n (by omega),hbs,Q6,QU (by simp[hn]),hn];simp
 have o4:=hs.r.o4;rw[ev4] at o4;obtain⟨u5,d5⟩:∃u,w.cell? ⟨g4,i*23+5,none⟩=some u:=by
  have hlt:i*23+5<σ.cs.flatten.length:=by rw[o4.1];omega
  exact⟨_,(o4.cellAt (i*23+5) (by omega)).trans (QA hlt)⟩
 have f5:=o4.frozenAt (i*23+5);have wn:=aa n (by omega);obtain⟨n1,hn1⟩:∃n1,n1=n+1:=⟨_,rfl⟩;have en:(n1:Int)-1=(n:Int):=by omega
 rw[<-hn1] at ev;have hnn:n<n1:=by omega
 have hn0:¬(n:Int)<0:=by omega
 have c8:=hs.c.c8;rw[ev] at c8;have HS:=hid hs;have HB:=hid hb;have HO:=hid (And.intro ev ev4);have HN1:=hid (And.intro hn hn1);clear hs hb o8 o4 ev ev4 hn hn1 hbl;go_enter Tryz.func93,Tryz.ntmps93
 go_upto_region 3 with fail
 refine az (fun w':World=>w'.cell? ⟨b,8,none⟩=some (.slice (some ⟨gb,0,none⟩) n1 c8')/\w'.cell? ⟨b,4,none⟩=some (.slice (some ⟨g4,0,none⟩) σ.cs.length c4')/\w'.cell? ⟨gb,n,none⟩=some (.int .i64 (i:Int))) 20 (by kernel_rfl) ?_;have s3:=hid (HS.out.aj (Kp.drew [] w));have b3:=hid (HB.out.aj (Kp.drew [] w) (by simp));have hS:(fun w':World=>w'.cell? ⟨b,8,none⟩=some (.slice (some ⟨gb,0,none⟩) n1 c8')/\w'.cell? ⟨b,4,none⟩=some (.slice (some ⟨g4,0,none⟩) σ.cs.length c4')/\w'.cell? ⟨gb,n,none⟩=some (.int .i64 (i:Int))) w.drew:=⟨c8,by have:=HS.out.c.c4;rw[HO.out.2] at this;exact this,d8⟩;have d5:w.drew.cell? ⟨g4,i*23+5,none⟩=some u5:=d5;have f5:w.drew.frozen? ⟨g4,i*23+5,none⟩=false:=f5;obtain⟨w3,hw3⟩:∃w3,w3=w.drew:=⟨_,rfl⟩;rw[<-hw3] at s3 b3 hS d5 f5 ⊢;clear hw3 HS HB c8 d8;refine tk1 0 (v:=?_) rfl (by kernel_rfl) (fun _ _ _ h=>h) ⟨rfl,fun w hSw=>?_⟩ hS ?_;rotate_left;· ((try dsimp only at hSw);go_simp;(try with_reducible rfl))
 (try simp only[Qt,Qs,Qr,Act.put,Qq,Qu,Qv])
 refine tk1 1 (v:=?_) rfl (by kernel_rfl) (fun _ _ _ h=>h) ⟨rfl,fun w hSw=>?_⟩ hS ?_;rotate_left;· ((try dsimp only at hSw);go_simp;(try with_reducible rfl))
 (try simp only[Qt,Qs,Qr,Act.put,Qq,Qu,Qv])
 refine tk1 2 (v:=?_) rfl (by kernel_rfl) (fun _ _ _ h=>h) ⟨rfl,fun w hSw=>?_⟩ hS ?_;rotate_left;· ((try dsimp only at hSw);go_simp;(try with_reducible rfl))
 (try simp only[Qt,Qs,Qr,Act.put,Qq,Qu,Qv])
 refine tk1 3 (v:=?_) rfl (by kernel_rfl) (fun _ _ _ h=>h) ⟨rfl,fun w hSw=>?_⟩ hS ?_;rotate_left;· ((try dsimp only at hSw);go_simp;(try with_reducible rfl))
 (try simp only[Qt,Qs,Qr,Act.put,Qq,Qu,Qv])
 refine tk1 4 (v:=?_) rfl (by kernel_rfl) (fun _ _ _ h=>h) ⟨rfl,fun w hSw=>?_⟩ hS ?_;rotate_left;· ((try dsimp only at hSw);go_simp;(try with_reducible rfl))
 (try simp only[Qt,Qs,Qr,Act.put,Qq,Qu,Qv])
 refine tk1 5 (v:=?_) rfl (by kernel_rfl) (fun _ _ _ h=>h) ⟨rfl,fun w hSw=>?_⟩ hS ?_;rotate_left;· ((try dsimp only at hSw);go_simp;(try with_reducible rfl))
 (try simp only[Qt,Qs,Qr,Act.put,Qq,Qu,Qv])
 refine tk1 6 (v:=?_) rfl (by kernel_rfl) (fun _ _ _ h=>h) ⟨rfl,fun w hSw=>?_⟩ hS ?_;rotate_left;· ((try dsimp only at hSw);go_simp;(try with_reducible rfl))
 (try simp only[Qt,Qs,Qr,Act.put,Qq,Qu,Qv])
 refine tk1 7 (v:=?_) rfl (by kernel_rfl) (fun _ _ _ h=>h) ⟨rfl,fun w hSw=>?_⟩ hS ?_;rotate_left;· ((try dsimp only at hSw);go_simp;(try with_reducible rfl))
 (try simp only[Qt,Qs,Qr,Act.put,Qq,Qu,Qv])
 refine tk1 8 (v:=?_) rfl (by kernel_rfl) (fun _ _ _ h=>h) ⟨rfl,fun w hSw=>?_⟩ hS ?_;rotate_left;· ((try dsimp only at hSw);go_simp;(try with_reducible rfl))
 (try simp only[Qt,Qs,Qr,Act.put,Qq,Qu,Qv])
 refine tk1 9 (v:=?_) rfl (by kernel_rfl) (fun _ _ _ h=>h) ⟨rfl,fun w hSw=>?_⟩ hS ?_;rotate_left;· ((try dsimp only at hSw);go_simp;(try with_reducible rfl))
 (try simp only[Qt,Qs,Qr,Act.put,Qq,Qu,Qv])
 refine tk1 10 (v:=?_) rfl (by kernel_rfl) (fun _ _ _ h=>h) ⟨rfl,fun w hSw=>?_⟩ hS ?_;rotate_left;· ((try dsimp only at hSw);go_simp;(try with_reducible rfl))
 (try simp only[Qt,Qs,Qr,Act.put,Qq,Qu,Qv])
 refine tk1 11 (v:=?_) rfl (by kernel_rfl) (fun _ _ _ h=>h) ⟨rfl,fun w hSw=>?_⟩ hS ?_;rotate_left;· ((try dsimp only at hSw);go_simp;(try with_reducible rfl))
 (try simp only[Qt,Qs,Qr,Act.put,Qq,Qu,Qv])
 refine tk1 12 (v:=?_) rfl (by kernel_rfl) (fun _ _ _ h=>h) ⟨rfl,fun w hSw=>?_⟩ hS ?_;rotate_left;· ((try dsimp only at hSw);go_simp;(try with_reducible rfl))
 (try simp only[Qt,Qs,Qr,Act.put,Qq,Qu,Qv])
 refine tk1 13 (v:=?_) rfl (by kernel_rfl) (fun _ _ _ h=>h) ⟨rfl,fun w hSw=>?_⟩ hS ?_;rotate_left;· ((try dsimp only at hSw);go_simp;(try with_reducible rfl))
 (try simp only[Qt,Qs,Qr,Act.put,Qq,Qu,Qv])
 refine tk1 14 (v:=?_) rfl (by kernel_rfl) (fun _ _ _ h=>h) ⟨rfl,fun w hSw=>?_⟩ hS ?_;rotate_left;· ((try dsimp only at hSw);go_simp;(try with_reducible rfl))
 (try simp only[Qt,Qs,Qr,Act.put,Qq,Qu,Qv])
 refine tk1 15 (v:=?_) rfl (by kernel_rfl) (fun _ _ _ h=>h) ⟨rfl,fun w hSw=>?_⟩ hS ?_;rotate_left;· ((try dsimp only at hSw);go_simp;(try with_reducible rfl))
 (try simp only[Qt,Qs,Qr,Act.put,Qq,Qu,Qv])
 refine tk1 16 (v:=?_) rfl (by kernel_rfl) (fun _ _ _ h=>h) ⟨rfl,fun w hSw=>?_⟩ hS ?_;rotate_left;· ((try dsimp only at hSw);go_simp;(try with_reducible rfl))
 (try simp only[Qt,Qs,Qr,Act.put,Qq,Qu,Qv])
 refine tk1 17 (v:=?_) rfl (by kernel_rfl) (fun _ _ _ h=>h) ⟨rfl,fun w hSw=>?_⟩ hS ?_;rotate_left;· ((try dsimp only at hSw);go_simp;(try with_reducible rfl))
 (try simp only[Qt,Qs,Qr,Act.put,Qq,Qu,Qv])
 refine ai (i:=18) (by kernel_rfl) rfl (fun K hK=>?_);go_simp;refine hK.out _ _ (.inr hS) ?_;clear hK K;refine ai (i:=19) (by kernel_rfl) rfl (fun K hK=>?_);go_simp;refine hK.out _ _ (.inr hS) ?_;clear hK K;have s4:=s3.out.Ip (i:=i) (j:=5) (v:=.int .i64 (σ.cs.length:Int)) HO.out.2 hc (by omega) rfl;have k4:Kp [g4] w3 (w3.setCell ⟨g4,i*23+5,none⟩ (.int .i64 (σ.cs.length:Int))):=Kp.setCell _ _ (by simp);have g4k:srB b σ 4=some g4:=by show σ.vc.ownBlock=some g4;rw[HO.out.2];rfl
 have b4:=b3.out.aj k4 (by have:=hf.bk 4;rw[g4k] at this;simpa using fun e=>this (by rw[e]));have S4:=hid s4;have B4:=hid b4;clear s4 b4 k4;refine ai (i:=20) (by kernel_rfl) rfl (fun K hK=>?_);go_simp;refine hK.out _ _ (.inl rfl) ?_;clear hK K;refine ax (by kernel_rfl) ?_ _;obtain⟨w4,hw4⟩:∃w4,w4=w3.setCell ⟨g4,i*23+5,none⟩ (.int .i64 (σ.cs.length:Int)):=⟨_,rfl⟩;rw[<-hw4] at S4 B4 ⊢;clear hw4 hS d5 f5 s3 b3;have e8:w4.cell? ⟨b,8,none⟩=some σ.vb:=S4.out.c.c8;rw[HO.out.1] at e8;have f8:=S4.out.cur.free 8;have S5:=hid (S4.out.MR (A:=some ⟨gb,0,none⟩) (c:=c8') (m:=n) (l:=l) (x:=i) (by show σ.vb=_;rw[HO.out.1,HN1.out.2]) hbs HN1.out.1.symm);have B5:=hid (B4.out.aj (Kp.setCell (S:=[b]) (p:=⟨b,8,none⟩) w4 (.slice (some ⟨gb,0,none⟩) n c8') (by simp)) (by simpa using hne))
 have far':Hid (Sr.Far w0 b { σ with vb:=.slice (some ⟨gb,0,none⟩) n c8',bs:=l,cs:=σ.cs.set i (c.set 5 (.int .i64 (σ.cs.length:Int)))} cb):=hid (by
  refine⟨hf.lo,fun q=>?_,hf.fx⟩;have:=hf.bk q
  rw[show srB b { σ with vb:=.slice (some ⟨gb,0,none⟩) n c8',bs:=l,cs:=σ.cs.set i (c.set 5 (.int .i64 (σ.cs.length:Int)))}=srB b σ from(AD b { σ with cs:=σ.cs.set i (c.set 5 (.int .i64 (σ.cs.length:Int)))} (some ⟨gb,0,none⟩) n1 c8' n l HO.out.1).trans (by
   funext q
   rcases q with _|_|_|_|_|_|_|_|q<;>rfl)]
  exact this)
 go_wp2_with fail;go_end0;exact⟨rfl,_,S5.out,cv,B5.out,hl,far'.out,l,i,c,_,hbs,hc,rfl,rfl⟩
def Labels(x:ByteArray)(σ:Sst)(cv:List Value)(σ':Sst)(cv':List Value):Prop:=σ'={ σ with ls:=σ.ls++[(x,σ.cs.length)]}/\cv'=cv.set 4 (.string x)
theorem Nf{n e:Nat}{x:ByteArray}(h:wdN src (blk src k) n (blk src k)=some e)(hx:src.extract (blk src k) e=x)(hfi:Instr.findNow .string (.string x) (lY 0 σ.ls) 0=some none)(_:σ.cs.length<=2000):Ek w0 94 b src k e σ (Labels x):=by
 intro w cb cv hs hb hl _ hf _;have hne:cb≠b:=fun e=>hf.bk 0 (by rw[e];rfl);obtain⟨A4,c4',ev4,_,_⟩:=aZ hs.r.o4;have H:=hid h;have HX:=hid hx;have HFI:=hid hfi;clear h hx hfi;go_enter Tryz.func94,Tryz.ntmps94
 go_wp2_with fail;refine(CF hs.cur H.out).mono ?_;rintro r w1 ⟨rfl,h1,m1⟩;rw[HX.out];have s1:=hs.move m1 h1;have b1:=hb.aj m1.kp (by simpa using hne);have e4:=b1.at_ 4 _ (QA (show 4<cv.length by rw[hl.len];omega));have f4:=b1.free 4;clear hs hb m1 h1 H HX;go_upto_region 1 with fail
 have k2:Kp [cb] w1 (w1.setCell ⟨cb,4,none⟩ (.string x)):=Kp.setCell _ _ (by simp);have s2:=s1.other k2 (fun y hy=>by simp at hy;rw[hy];exact hf);have b2:=b1.set 4 (.string x) (by rw[hl.len];omega);have l2:Cv (cv.set 4 (.string x)):=hl.set 4 rfl;obtain⟨w2,hw2⟩:∃w2,w2=w1.setCell ⟨cb,4,none⟩ (.string x):=⟨_,rfl⟩;rw[<-hw2] at s2 b2 ⊢;clear hw2 k2 s1 b1 e4 f4 w1;have c9:=s2.c.c9;have e4:=b2.at_ 4 (.string x) (QI (by rw[hl.len];omega));have hlk:∀m,(Instr.lookup 124 (.map (some σ.lb)) (.string x) true).run Tryz.prog (w2.drewN m)=.ok (.tuple #[.int .i64 0,.bool false]) (w2.drewN m):=fun m=>
  pO Tryz.underlying124 Tryz.underlying9 (tW _) (((Kp.drewN [] w2 m).block _ (s2.r.bk.hi 2 _ rfl) (by simp)).trans s2.r.m9) HFI.out
 go_quiet (fail);have s3:=s2.aj (Kp.drewN [] w2 nq);have b3:=b2.aj (Kp.drewN [] w2 nq) (by simp);obtain⟨w3,hw3⟩:∃w3,w3=w2.drewN nq:=⟨_,rfl⟩;rw[<-hw3] at s3 b3 ⊢;clear hw3 hlk c9 e4 s2 b2;go_upto_region 4 with fail
 refine az (fun w':World=>w'.cell? ⟨b,9,none⟩=some (.map (some σ.lb))/\w'.cell? ⟨cb,4,none⟩=some (.string x)/\w'.cell? ⟨b,4,none⟩=some (.slice A4 σ.cs.length c4')) 14 (by kernel_rfl) ?_;have s4:=s3.aj (Kp.drew [] w3);have b4:=b3.aj (Kp.drew [] w3) (by simp);have hS:(fun w':World=>w'.cell? ⟨b,9,none⟩=some (.map (some σ.lb))/\w'.cell? ⟨cb,4,none⟩=some (.string x)/\w'.cell? ⟨b,4,none⟩=some (.slice A4 σ.cs.length c4')) w3.drew:=⟨s4.c.c9,b4.at_ 4 (.string x) (QI (by rw[hl.len];omega)),by rw[<-ev4];exact s4.c.c4⟩;obtain⟨w4,hw4⟩:∃w4,w4=w3.drew:=⟨_,rfl⟩;rw[<-hw4] at s4 b4 hS ⊢;clear hw4 s3 b3;refine tk1 0 (v:=?_) rfl (by kernel_rfl) (fun _ _ _ h=>h) ⟨rfl,fun w hSw=>?_⟩ hS ?_;rotate_left;· ((try dsimp only at hSw);go_simp;(try with_reducible rfl))
 (try simp only[Qt,Qs,Qr,Act.put,Qq,Qu,Qv])
 refine tk1 1 (v:=?_) rfl (by kernel_rfl) (fun _ _ _ h=>h) ⟨rfl,fun w hSw=>?_⟩ hS ?_;rotate_left;· ((try dsimp only at hSw);go_simp;(try with_reducible rfl))
 (try simp only[Qt,Qs,Qr,Act.put,Qq,Qu,Qv])
 refine tk1 2 (v:=?_) rfl (by kernel_rfl) (fun _ _ _ h=>h) ⟨rfl,fun w hSw=>?_⟩ hS ?_;rotate_left;· ((try dsimp only at hSw);go_simp;(try with_reducible rfl))
 (try simp only[Qt,Qs,Qr,Act.put,Qq,Qu,Qv])
 refine tk1 3 (v:=?_) rfl (by kernel_rfl) (fun _ _ _ h=>h) ⟨rfl,fun w hSw=>?_⟩ hS ?_;rotate_left;· ((try dsimp only at hSw);go_simp;(try with_reducible rfl))
 (try simp only[Qt,Qs,Qr,Act.put,Qq,Qu,Qv])
 refine tk1 4 (v:=?_) rfl (by kernel_rfl) (fun _ _ _ h=>h) ⟨rfl,fun w hSw=>?_⟩ hS ?_;rotate_left;· ((try dsimp only at hSw);go_simp;(try with_reducible rfl))
 (try simp only[Qt,Qs,Qr,Act.put,Qq,Qu,Qv])
 refine tk1 5 (v:=?_) rfl (by kernel_rfl) (fun _ _ _ h=>h) ⟨rfl,fun w hSw=>?_⟩ hS ?_;rotate_left;· ((try dsimp only at hSw);go_simp;(try with_reducible rfl))
 (try simp only[Qt,Qs,Qr,Act.put,Qq,Qu,Qv])
 refine tk1 6 (v:=?_) rfl (by kernel_rfl) (fun _ _ _ h=>h) ⟨rfl,fun w hSw=>?_⟩ hS ?_;rotate_left;· ((try dsimp only at hSw);go_simp;(try with_reducible rfl))
 (try simp only[Qt,Qs,Qr,Act.put,Qq,Qu,Qv])
 refine tk1 7 (v:=?_) rfl (by kernel_rfl) (fun _ _ _ h=>h) ⟨rfl,fun w hSw=>?_⟩ hS ?_;rotate_left;· ((try dsimp only at hSw);go_simp;(try with_reducible rfl))
 (try simp only[Qt,Qs,Qr,Act.put,Qq,Qu,Qv])
 refine tk1 8 (v:=?_) rfl (by kernel_rfl) (fun _ _ _ h=>h) ⟨rfl,fun w hSw=>?_⟩ hS ?_;rotate_left;· ((try dsimp only at hSw);go_simp;(try with_reducible rfl))
 (try simp only[Qt,Qs,Qr,Act.put,Qq,Qu,Qv])
 refine tk1 9 (v:=?_) rfl (by kernel_rfl) (fun _ _ _ h=>h) ⟨rfl,fun w hSw=>?_⟩ hS ?_;rotate_left;· ((try dsimp only at hSw);go_simp;(try with_reducible rfl))
 (try simp only[Qt,Qs,Qr,Act.put,Qq,Qu,Qv])
 refine tk1 10 (v:=?_) rfl (by kernel_rfl) (fun _ _ _ h=>h) ⟨rfl,fun w hSw=>?_⟩ hS ?_;rotate_left;· ((try dsimp only at hSw);go_simp;(try with_reducible rfl))
 (try simp only[Qt,Qs,Qr,Act.put,Qq,Qu,Qv])
 refine tk1 11 (v:=?_) rfl (by kernel_rfl) (fun _ _ _ h=>h) ⟨rfl,fun w hSw=>?_⟩ hS ?_;rotate_left;· ((try dsimp only at hSw);go_simp;(try with_reducible rfl))
 (try simp only[Qt,Qs,Qr,Act.put,Qq,Qu,Qv])
 refine tk1 12 (v:=?_) rfl (by kernel_rfl) (fun _ _ _ h=>h) ⟨rfl,fun w hSw=>?_⟩ hS ?_;rotate_left;· ((try dsimp only at hSw);go_simp;(try with_reducible rfl))
 (try simp only[Qt,Qs,Qr,Act.put,Qq,Qu,Qv])
 refine tk1 13 (v:=?_) rfl (by kernel_rfl) (fun _ _ _ h=>h) ⟨rfl,fun w hSw=>?_⟩ hS ?_;rotate_left;· ((try dsimp only at hSw);go_simp;(try with_reducible rfl))
 (try simp only[Qt,Qs,Qr,Act.put,Qq,Qu,Qv])
 have hput:=C5 (v:=.int .i64 (σ.cs.length:Int)) Tryz.underlying124 Tryz.underlying9 s4.r.m9 HFI.out;have kput:=Kp.setBlock w4 σ.lb (.map ((lY 0 σ.ls).toArray.push ⟨.string x,.int .i64 (σ.cs.length:Int),σ.ls.length⟩) (σ.ls.length+1));have hm5:(ChangeMaps.setBlock w4 σ.lb (.map ((lY 0 σ.ls).toArray.push ⟨.string x,.int .i64 (σ.cs.length:Int),σ.ls.length⟩) (σ.ls.length+1))).heap[σ.lb]? = some (Py (σ.ls++[(x,σ.cs.length)])):=by
  rw[CN];have:=s4.r.bk.hi 2 σ.lb rfl;simp[ChangeMaps.setBlock,this]
 have s5:=s4.MO σ.cs.length kput hm5;have nbc:cb≠σ.lb:=fun e=>hf.bk 2 (by rw[e];rfl);have b5:=b4.aj kput (by simpa using nbc);obtain⟨w5,hw5⟩:∃w5,w5=ChangeMaps.setBlock w4 σ.lb (.map ((lY 0 σ.ls).toArray.push ⟨.string x,.int .i64 (σ.cs.length:Int),σ.ls.length⟩) (σ.ls.length+1)):=⟨_,rfl⟩;rw[<-hw5] at hput s5 b5;clear hw5 hm5 kput;refine ai (i:=14) (by kernel_rfl) rfl (fun K hK=>?_);go_simp;refine hK.out _ _ (.inl rfl) ?_;clear hK K;refine ax (by kernel_rfl) ?_ _;clear hput hS s4 b4;go_wp2_with fail;go_end0;exact⟨_,_,rfl,s5,b5,l2,⟨hf.lo,fun i=>by rw[Ig];exact hf.bk i,hf.fx⟩,rfl,rfl⟩
def LM(x:ByteArray)(pl:Nat)(σ:Sst)(cv:List Value)(σ':Sst)(cv':List Value):Prop:=(∃v,σ'={ σ with vg:=v,gs:=σ.gs++[(σ.cs.length,pl)]})/\cv'=cv.set 4 (.string x)
end
