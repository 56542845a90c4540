import Derived.Test.YtiahkfoojjpaaaaGreatDoorT23
set_option maxRecDepth 100000
set_option maxHeartbeats 16000000
set_option linter.all false
namespace Go.Proofs.YtiahkfoojjpaaaaGreatDoor
open Go.RowKit Go.MapKept
section
variable {w0 w w1 w2:World} {b k g cap:Nat} {src:ByteArray} {σ:Sst} {cv:List Value}
theorem Fa (b:Nat) (σ:Sst) (l:List (ByteArray×Nat)):srB b { σ with ls:=l }=srB b σ:=by
 funext i
 rcases i with _ | _ | _ | _ | _ | _ | _ | _ | i <;> rfl
theorem Sr.J0 {x:ByteArray} (h:Sr w0 w b src k σ) (n:Nat) (kp:Kp [σ.lb] w w1) (hm:w1.heap[σ.lb]? = some (Mw (σ.ls++[(x,n)]))):Sr w0 w1 b src k { σ with ls:=σ.ls++[(x,n)] }:=by
 have hb:b∉[σ.lb]:=fun e=>by
  have:b=σ.lb:=by simpa using e
  have:=h.r.bk.ne 0 2 b rfl (by rw [this];rfl);omega
 have hh:∀ i p,i≠2->srB b σ i=some p->w1.heap[p]? = w.heap[p]?:=fun i p hi hp=>kp.block p (h.r.bk.hi i p hp) (fun e=>hi (h.r.bk.ne i 2 p hp (by simp at e;rw [e];rfl)));have c:=h.c.aj (w':=w1) (fun j _=>kp.cell (p:=⟨b,j,none⟩) h.cur.lt hb);refine ⟨h.cur.aj kp hb,⟨c.c2,c.c3,c.c4,c.c5,c.c6,c.c7,c.c8,c.c9,c.c10,c.c11⟩,⟨?_,ai h.r.o4 (fun p hp=>hh 4 p (by omega) hp),ai h.r.o5 (fun p hp=>hh 5 p (by omega) hp),ai h.r.o8 (fun p hp=>hh 6 p (by omega) hp),ai h.r.o11 (fun p hp=>hh 7 p (by omega) hp),(hh 1 _ (by omega) rfl).trans h.r.m7,hm,(hh 3 _ (by omega) rfl).trans h.r.m10,h.r.len,by rw [Fa];exact h.r.bk.grow kp.size,fun f hf=>?_⟩⟩
 .refine ⟨kp.os.trans h.r.kp.os,kp.tape.trans h.r.kp.tape,kp.output.trans h.r.kp.output,Nx h.r.kp.size kp.size,fun j hj _=>(kp.block j (Ns hj h.r.kp.size) (fun e=>?_)).trans (h.r.kp.block j hj (by simp))⟩;have:=h.r.bk.lo 2 σ.lb rfl;simp at e;omega
 .obtain ⟨f1,f2,f3⟩:=h.r.fx f hf;refine ⟨(kp.block f.1 (aN f1) (fun e=>f3 2 (by simp at e;rw [e];rfl))).trans f1,f2,by rw [Fa];exact f3⟩
theorem jn (b:Nat) (σ:Sst) (A:Addr) (n c:Nat) (l:List Nat):srB b { σ with vb:=.slice (some A) n c,bs:=l }=fun j=>if j=6 then some A.block else srB b σ j:=by
 funext i
 rcases i with _ | _ | _ | _ | _ | _ | _ | _ | i <;> simp [srB,Value.ownBlock]
theorem Sr.Gk {x:Nat} (h:Sr w0 w b src k σ) (k1:Kp [] w w1) (ho:w2.ownsRow w0.heap.size 3 1 (.slice (some ⟨g,0,none⟩) (σ.bs.length+1) cap) (σ.bs.length+1) ((σ.bs.map fun n:Nat=>Value.int .i64 (n:Int))++[.int .i64 (x:Int)]))
  (hg:w1.grownBy w2 σ.vb.ownBlock) (hor:σ.vb.ownBlock=some g\/w1.heap.size<=g) :
  Sr w0 (w2.setCell ⟨b,8,none⟩ (.slice (some ⟨g,0,none⟩) (σ.bs.length+1) cap)) b src k { σ with vb:=.slice (some ⟨g,0,none⟩) (σ.bs.length+1) cap,bs:=σ.bs++[x] }:=by
 obtain ⟨v,hv⟩:∃ v,v=Value.slice (some ⟨g,0,none⟩) (σ.bs.length+1) cap:=⟨_,rfl⟩;have h1:=h.aj k1;have glt:g < w2.heap.size:=(aA ho (g:=g) rfl).2;have bne:∀ i p,i≠6->srB b σ i=some p->w2.heap[p]? = w1.heap[p]?:=fun i p hi hp=>hg.block p (h1.r.bk.hi i p hp) (fun e=>hi (h1.r.bk.ne i 6 p hp (by first | exact e | exact e.symm)));have gne:∀ i p,i≠6->srB b σ i=some p->p≠g:=fun i p hi hp e=>by
  subst e;rcases hor with q | q
  .exact hi (h1.r.bk.ne i 6 p hp q)
  .have:=h1.r.bk.hi i p hp;omega
 have kb:Kp [b] w2 (w2.setCell ⟨b,8,none⟩ v):=Kp.setCell _ _ (by simp);have bb:∀ p,p < w2.heap.size->p≠b->(w2.setCell ⟨b,8,none⟩ v).heap[p]? = w2.heap[p]?:=fun p hp hn=>kb.block p hp (by simpa using hn);have hh:∀ i p,0 < i->i≠6->srB b σ i=some p->(w2.setCell ⟨b,8,none⟩ v).heap[p]? = w1.heap[p]?:=fun i p h0 hi hp=>
  (bb p (Ns (h1.r.bk.hi i p hp) hg.size) (fun e=>by have:=h1.r.bk.ne i 0 p hp (by rw [e];rfl);omega)).trans (bne i p hi hp)
 have hb2:w2.heap[b]? = w1.heap[b]?:=bne 0 b (by omega) rfl;have hc2:∀ j,w2.cell? ⟨b,j,none⟩=w1.cell? ⟨b,j,none⟩:=fun j=>World.cell?_of_block hb2;have hf2:∀ j,w2.frozen? ⟨b,j,none⟩=w1.frozen? ⟨b,j,none⟩:=fun j=>World.frozen?_of_block hb2;have hc:∀ j,j≠8->(w2.setCell ⟨b,8,none⟩ v).cell? ⟨b,j,none⟩=w1.cell? ⟨b,j,none⟩:=fun j hj=>(aq _ (fun e=>by injection e with _ e2 _;exact hj e2.symm)).trans (hc2 j);have gb:g≠b:=fun e=>gne 0 b (by omega) rfl e.symm;rw [<-hv] at ho ⊢;have eB:srB b { σ with vb:=v,bs:=σ.bs++[x] }=fun j=>if j=6 then some g else srB b σ j:=by rw [hv];exact jn b σ _ _ _ _
 refine ⟨⟨Ns (Ns h1.cur.lt hg.size) kb.size,h1.cur.le,h1.cur.small,(hc _ (by omega)).trans h1.cur.c0,(hc _ (by omega)).trans h1.cur.c1,fun i=>?_⟩,⟨(hc _ (by omega)).trans h1.c.c2,(hc _ (by omega)).trans h1.c.c3,(hc _ (by omega)).trans h1.c.c4,(hc _ (by omega)).trans h1.c.c5,(hc _ (by omega)).trans h1.c.c6,(hc _ (by omega)).trans h1.c.c7,aw _ ((hc2 8).trans h1.c.c8),(hc _ (by omega)).trans h1.c.c9,(hc _ (by omega)).trans h1.c.c10,(hc _ (by omega)).trans h1.c.c11⟩,⟨?_,ai h1.r.o4 (fun p hp=>hh 4 p (by omega) (by omega) hp),ai h1.r.o5 (fun p hp=>hh 5 p (by omega) (by omega) hp),?_,ai h1.r.o11 (fun p hp=>hh 7 p (by omega) (by omega) hp),(hh 1 _ (by omega) (by omega) rfl).trans h1.r.m7,(hh 2 _ (by omega) (by omega) rfl).trans h1.r.m9,(hh 3 _ (by omega) (by omega) rfl).trans h1.r.m10,h1.r.len,?_,?_⟩⟩
 .have e1:(w2.setCell ⟨b,8,none⟩ v).frozen? ⟨b,i,none⟩=w2.frozen? ⟨b,i,none⟩:=by simp
  rw [e1,hf2];exact h1.cur.free i
 .refine ⟨kb.os.trans (hg.os.trans h1.r.kp.os),kb.tape.trans (hg.tape.trans h1.r.kp.tape),kb.output.trans (hg.output.trans h1.r.kp.output),Nx h1.r.kp.size (Nx hg.size kb.size),fun j hj _=>?_⟩;have hj1:j < w1.heap.size:=Ns hj h1.r.kp.size;refine (bb j (Ns hj1 hg.size) (fun e=>?_)).trans ((hg.block j hj1 (fun e=>?_)).trans (h1.r.kp.block j hj (by simp)))
  .have:=h1.r.bk.lo 0 b rfl;omega
  .have:=h1.r.bk.lo 6 j (by first | exact e | exact e.symm);omega
 .have ho2:=ai (w':=w2.setCell ⟨b,8,none⟩ v) ho (fun p hp=>by
   rw [hv] at hp;have:g=p:=by simpa [Value.ownBlock] using hp
   subst this
   exact bb g glt gb)
  rw [Nu];rw [N8];simpa using ho2
 .rw [eB];refine h1.r.bk.upd 6 g (Nx hg.size kb.size) h1.r.kp.size ?_;rcases hor with q | q
  .exact .inl q
  .exact .inr ⟨q,Ns glt kb.size⟩
 .intro f hm;obtain ⟨f1,f2,f3⟩:=h1.r.fx f hm;have flt:=aN f1;have fg:f.1≠g:=fun e=>by
   rcases hor with q | q
   .exact f3 6 (by rw [e];exact q)
   .omega
  refine ⟨(bb f.1 (Ns flt hg.size) (fun e=>f3 0 (by rw [e];rfl))).trans ((hg.block f.1 flt (fun e=>f3 6 (by first | exact e | exact e.symm))).trans f1),f2,fun i=>?_⟩;rw [eB];show (if i=6 then some g else srB b σ i)≠_;split
  .intro e;injection e with e;exact fg e.symm
  .exact f3 i
theorem lG (b:Nat) (σ:Sst) (A:Addr) (n c:Nat) (l:List (Nat×Nat)):srB b { σ with vg:=.slice (some A) n c,gs:=l }=fun j=>if j=7 then some A.block else srB b σ j:=by
 funext i
 rcases i with _ | _ | _ | _ | _ | _ | _ | _ | i <;> simp [srB,Value.ownBlock]
theorem Sr.pushGoal {x:Nat×Nat} (h:Sr w0 w b src k σ) (k1:Kp [] w w1) (ho:w2.ownsRow w0.heap.size 164 2 (.slice (some ⟨g,0,none⟩) (σ.gs.length+1) cap) (σ.gs.length+1) ((σ.gs.flatMap fun p:Nat×Nat=>[Value.int .i64 (p.1:Int),.int .i64 (p.2:Int)])++[.int .i64 (x.1:Int),.int .i64 (x.2:Int)]))
  (hg:w1.grownBy w2 σ.vg.ownBlock) (hor:σ.vg.ownBlock=some g\/w1.heap.size<=g) :
  Sr w0 (w2.setCell ⟨b,11,none⟩ (.slice (some ⟨g,0,none⟩) (σ.gs.length+1) cap)) b src k { σ with vg:=.slice (some ⟨g,0,none⟩) (σ.gs.length+1) cap,gs:=σ.gs++[x] }:=by
 obtain ⟨v,hv⟩:∃ v,v=Value.slice (some ⟨g,0,none⟩) (σ.gs.length+1) cap:=⟨_,rfl⟩;have h1:=h.aj k1;have glt:g < w2.heap.size:=(aA ho (g:=g) rfl).2;have bne:∀ i p,i≠7->srB b σ i=some p->w2.heap[p]? = w1.heap[p]?:=fun i p hi hp=>hg.block p (h1.r.bk.hi i p hp) (fun e=>hi (h1.r.bk.ne i 7 p hp (by first | exact e | exact e.symm)));have gne:∀ i p,i≠7->srB b σ i=some p->p≠g:=fun i p hi hp e=>by
  subst e;rcases hor with q | q
  .exact hi (h1.r.bk.ne i 7 p hp q)
  .have:=h1.r.bk.hi i p hp;omega
 have kb:Kp [b] w2 (w2.setCell ⟨b,11,none⟩ v):=Kp.setCell _ _ (by simp);have bb:∀ p,p < w2.heap.size->p≠b->(w2.setCell ⟨b,11,none⟩ v).heap[p]? = w2.heap[p]?:=fun p hp hn=>kb.block p hp (by simpa using hn);have hh:∀ i p,0 < i->i≠7->srB b σ i=some p->(w2.setCell ⟨b,11,none⟩ v).heap[p]? = w1.heap[p]?:=fun i p h0 hi hp=>
  (bb p (Ns (h1.r.bk.hi i p hp) hg.size) (fun e=>by have:=h1.r.bk.ne i 0 p hp (by rw [e];rfl);omega)).trans (bne i p hi hp)
 have hb2:w2.heap[b]? = w1.heap[b]?:=bne 0 b (by omega) rfl;have hc2:∀ j,w2.cell? ⟨b,j,none⟩=w1.cell? ⟨b,j,none⟩:=fun j=>World.cell?_of_block hb2;have hf2:∀ j,w2.frozen? ⟨b,j,none⟩=w1.frozen? ⟨b,j,none⟩:=fun j=>World.frozen?_of_block hb2;have hc:∀ j,j≠11->(w2.setCell ⟨b,11,none⟩ v).cell? ⟨b,j,none⟩=w1.cell? ⟨b,j,none⟩:=fun j hj=>(aq _ (fun e=>by injection e with _ e2 _;exact hj e2.symm)).trans (hc2 j);have gb:g≠b:=fun e=>gne 0 b (by omega) rfl e.symm;rw [<-hv] at ho ⊢;have eB:srB b { σ with vg:=v,gs:=σ.gs++[x] }=fun j=>if j=7 then some g else srB b σ j:=by rw [hv];exact lG b σ _ _ _ _
 refine ⟨⟨Ns (Ns h1.cur.lt hg.size) kb.size,h1.cur.le,h1.cur.small,(hc _ (by omega)).trans h1.cur.c0,(hc _ (by omega)).trans h1.cur.c1,fun i=>?_⟩,⟨(hc _ (by omega)).trans h1.c.c2,(hc _ (by omega)).trans h1.c.c3,(hc _ (by omega)).trans h1.c.c4,(hc _ (by omega)).trans h1.c.c5,(hc _ (by omega)).trans h1.c.c6,(hc _ (by omega)).trans h1.c.c7,(hc _ (by omega)).trans h1.c.c8,(hc _ (by omega)).trans h1.c.c9,(hc _ (by omega)).trans h1.c.c10,aw _ ((hc2 11).trans h1.c.c11)⟩,⟨?_,ai h1.r.o4 (fun p hp=>hh 4 p (by omega) (by omega) hp),ai h1.r.o5 (fun p hp=>hh 5 p (by omega) (by omega) hp),ai h1.r.o8 (fun p hp=>hh 6 p (by omega) (by omega) hp),?_,(hh 1 _ (by omega) (by omega) rfl).trans h1.r.m7,(hh 2 _ (by omega) (by omega) rfl).trans h1.r.m9,(hh 3 _ (by omega) (by omega) rfl).trans h1.r.m10,h1.r.len,?_,?_⟩⟩
 .have e1:(w2.setCell ⟨b,11,none⟩ v).frozen? ⟨b,i,none⟩=w2.frozen? ⟨b,i,none⟩:=by simp
  rw [e1,hf2];exact h1.cur.free i
 .refine ⟨kb.os.trans (hg.os.trans h1.r.kp.os),kb.tape.trans (hg.tape.trans h1.r.kp.tape),kb.output.trans (hg.output.trans h1.r.kp.output),Nx h1.r.kp.size (Nx hg.size kb.size),fun j hj _=>?_⟩;have hj1:j < w1.heap.size:=Ns hj h1.r.kp.size;refine (bb j (Ns hj1 hg.size) (fun e=>?_)).trans ((hg.block j hj1 (fun e=>?_)).trans (h1.r.kp.block j hj (by simp)))
  .have:=h1.r.bk.lo 0 b rfl;omega
  .have:=h1.r.bk.lo 7 j (by first | exact e | exact e.symm);omega
 .have ho2:=ai (w':=w2.setCell ⟨b,11,none⟩ v) ho (fun p hp=>by
   rw [hv] at hp;have:g=p:=by simpa [Value.ownBlock] using hp
   subst this
   exact bb g glt gb)
  rw [Nu];rw [List.flatMap_append];simpa using ho2
 .rw [eB];refine h1.r.bk.upd 7 g (Nx hg.size kb.size) h1.r.kp.size ?_;rcases hor with q | q
  .exact .inl q
  .exact .inr ⟨q,Ns glt kb.size⟩
 .intro f hm;obtain ⟨f1,f2,f3⟩:=h1.r.fx f hm;have flt:=aN f1;have fg:f.1≠g:=fun e=>by
   rcases hor with q | q
   .exact f3 7 (by rw [e];exact q)
   .omega
  refine ⟨(bb f.1 (Ns flt hg.size) (fun e=>f3 0 (by rw [e];rfl))).trans ((hg.block f.1 flt (fun e=>f3 7 (by first | exact e | exact e.symm))).trans f1),f2,fun i=>?_⟩;rw [eB];show (if i=7 then some g else srB b σ i)≠_;split
  .intro e;injection e with e;exact fg e.symm
  .exact f3 i
theorem GK {base size n m:Nat} {e:TypeId} {A:Option Addr} {c:Nat} {xs:List Value} (h:w.ownsRow base e size (.slice A n c) n xs) (hm:m<=n):w.ownsRow base e size (.slice A m c) m (xs.take (m * size)):=by
 have hms:m * size<=n * size:=NL _ hm;refine ⟨by rw [Oi,h.1];omega,?_⟩;rcases h.2 with ⟨q1,q2⟩ | ⟨g,cap,cur,q1,q2,q3,q4,q5,q6,q7⟩
 .injection q1 with e1 e2 e3;exact .inl ⟨by rw [e1,e3,show m=0 by omega],by omega⟩
 .injection q1 with e1 e2 e3;refine .inr ⟨g,cap,cur,by rw [e1,e3],q2,q3,by omega,q5,q6,?_⟩;rw [<-q7,List.take_take,Nat.min_eq_left hms]
theorem yv (b:Nat) (σ:Sst) (A:Option Addr) (n c m:Nat) (l:List Nat) (h:σ.vb=.slice A n c):srB b { σ with vb:=.slice A m c,bs:=l }=srB b σ:=by
 funext i
 rcases i with _ | _ | _ | _ | _ | _ | _ | _ | i <;> simp [srB,h]
 cases A <;> rfl
theorem Sr.J7 {A:Option Addr} {c m:Nat} {l:List Nat} {x:Nat} (h:Sr w0 w b src k σ) (hv:σ.vb=.slice A (m+1) c) (hl:σ.bs=l++[x]) (hm:l.length=m):Sr w0 (w.setCell ⟨b,8,none⟩ (.slice A m c)) b src k { σ with vb:=.slice A m c,bs:=l }:=by
 have kb:Kp [b] w (w.setCell ⟨b,8,none⟩ (.slice A m c)):=Kp.setCell _ _ (by simp)
 have hh:∀ i p,0 < i->srB b σ i=some p->(w.setCell ⟨b,8,none⟩ (.slice A m c)).heap[p]? = w.heap[p]?:=fun i p h0 hp=>kb.block p (h.r.bk.hi i p hp) (fun e=>by
  have:p=b:=by simpa using e
  have:=h.r.bk.ne i 0 p hp (by rw [this];rfl);omega)
 have hc:∀ j,j≠8->(w.setCell ⟨b,8,none⟩ (.slice A m c)).cell? ⟨b,j,none⟩=w.cell? ⟨b,j,none⟩:=fun j hj=>aq _ (fun e=>by injection e with _ e2 _;exact hj e2.symm);have o8:=h.r.o8;rw [hv,hl,Nu,hm] at o8;have o8':=GK (m:=m) o8 (by omega);rw [N8,Nat.mul_one,List.take_left' (by simpa using hm)] at o8';refine ⟨⟨Ns h.cur.lt kb.size,h.cur.le,h.cur.small,(hc _ (by omega)).trans h.cur.c0,(hc _ (by omega)).trans h.cur.c1,fun i=>?_⟩,⟨(hc _ (by omega)).trans h.c.c2,(hc _ (by omega)).trans h.c.c3,(hc _ (by omega)).trans h.c.c4,(hc _ (by omega)).trans h.c.c5,(hc _ (by omega)).trans h.c.c6,(hc _ (by omega)).trans h.c.c7,aw _ h.c.c8,(hc _ (by omega)).trans h.c.c9,(hc _ (by omega)).trans h.c.c10,(hc _ (by omega)).trans h.c.c11⟩,⟨?_,ai h.r.o4 (fun p hp=>hh 4 p (by omega) hp),ai h.r.o5 (fun p hp=>hh 5 p (by omega) hp),?_,ai h.r.o11 (fun p hp=>hh 7 p (by omega) hp),(hh 1 _ (by omega) rfl).trans h.r.m7,(hh 2 _ (by omega) rfl).trans h.r.m9,(hh 3 _ (by omega) rfl).trans h.r.m10,h.r.len,by rw [yv b σ A (m+1) c m l hv];exact h.r.bk.grow kb.size,fun f hf=>?_⟩⟩
 .have e1:(w.setCell ⟨b,8,none⟩ (.slice A m c)).frozen? ⟨b,i,none⟩=w.frozen? ⟨b,i,none⟩:=by simp
  rw [e1];exact h.cur.free i
 .refine ⟨kb.os.trans h.r.kp.os,kb.tape.trans h.r.kp.tape,kb.output.trans h.r.kp.output,Nx h.r.kp.size kb.size,fun j hj _=>(kb.block j (Ns hj h.r.kp.size) (fun e=>?_)).trans (h.r.kp.block j hj (by simp))⟩;have:=h.r.bk.lo 0 b rfl;simp at e;omega
 .rw [hm]
  exact ai o8' (fun p hp=>hh 6 p (by omega) (by
   show σ.vb.ownBlock=some p;rw [hv]
   cases A with
   | none=>cases hp
   | some a=>exact hp))
 .obtain ⟨f1,f2,f3⟩:=h.r.fx f hf;exact ⟨(kb.block f.1 (aN f1) (fun e=>f3 0 (by simp at e;rw [e];rfl))).trans f1,f2,by rw [yv b σ A (m+1) c m l hv];exact f3⟩
theorem oL {n:Nat} (v:Value):∀ (cs:List (List Value)) (i j:Nat) (c:List Value),(∀ c∈cs,c.length=n)->cs[i]? = some c->j < n->cs.flatten.set (i * n+j) v=(cs.set i (c.set j v)).flatten
 | [],i,_,_,_,h,_=>by simp at h
 | d::cs,0,j,c,hl,h,hj=>by
  injection h with h;subst h;have:=hl d (by simp);rw [On,OQ,NJ,List.set_append_left _ _ (by omega),Np,On]
 | d::cs,i+1,j,c,hl,h,hj=>by
  have:=hl d (by simp);rw [On,Oz _ _ (by rw [this,NZ];omega),Nq,On,<-oL v cs i j c (fun c hc=>hl c (by simp [hc])) h hj,this,show (i+1) * n+j - n=i * n+j by rw [NZ];omega]
theorem Sr.Fk {i j:Nat} {c:List Value} {v:Value} (h:Sr w0 w b src k σ) (hv:σ.vc=.slice (some ⟨g,0,none⟩) σ.cs.length cap) (hi:σ.cs[i]? = some c) (hj:j < 23) (h1:v.oneCell'=true):Sr w0 (w.setCell ⟨g,i * 23+j,none⟩ v) b src k { σ with cs:=σ.cs.set i (c.set j v) }:=by
 have kb:Kp [g] w (w.setCell ⟨g,i * 23+j,none⟩ v):=Kp.setCell _ _ (by simp);have hgk:srB b σ 4=some g:=by show σ.vc.ownBlock=some g;rw [hv];rfl
 have hgb:g≠b:=fun e=>by have:=h.r.bk.ne 4 0 g hgk (by rw [e];rfl);omega
 have hh:∀ i' p,i'≠4->srB b σ i'=some p->(w.setCell ⟨g,i * 23+j,none⟩ v).heap[p]? = w.heap[p]?:=fun i' p h0 hp=>kb.block p (h.r.bk.hi i' p hp) (fun e=>h0 (h.r.bk.ne i' 4 p hp (by
  have:p=g:=by simpa using e
  rw [this];exact hgk)))
 have hc:∀ q,(w.setCell ⟨g,i * 23+j,none⟩ v).cell? ⟨b,q,none⟩=w.cell? ⟨b,q,none⟩:=fun q=>kb.cell (p:=⟨b,q,none⟩) h.cur.lt (by simpa using hgb.symm);have eB:srB b { σ with cs:=σ.cs.set i (c.set j v) }=srB b σ:=by
  funext q
  rcases q with _ | _ | _ | _ | _ | _ | _ | _ | q <;> rfl
 have o4:=h.r.o4;rw [hv] at o4;have o4':=(o4.stored (i * 23+j) v).1;rw [oL v σ.cs i j c (fun c hc=>(h.r.len c hc).1) hi hj] at o4';have cs:=h.c.aj (w':=w.setCell ⟨g,i * 23+j,none⟩ v) (fun q _=>hc q);refine ⟨h.cur.aj kb (by simpa using hgb.symm),⟨cs.c2,cs.c3,cs.c4,cs.c5,cs.c6,cs.c7,cs.c8,cs.c9,cs.c10,cs.c11⟩,⟨?_,?_,ai h.r.o5 (fun p hp=>hh 5 p (by omega) hp),ai h.r.o8 (fun p hp=>hh 6 p (by omega) hp),ai h.r.o11 (fun p hp=>hh 7 p (by omega) hp),(hh 1 _ (by omega) rfl).trans h.r.m7,(hh 2 _ (by omega) rfl).trans h.r.m9,(hh 3 _ (by omega) rfl).trans h.r.m10,fun d hd=>?_,by rw [eB];exact h.r.bk.grow kb.size,fun f hf=>?_⟩⟩
 .refine ⟨kb.os.trans h.r.kp.os,kb.tape.trans h.r.kp.tape,kb.output.trans h.r.kp.output,Nx h.r.kp.size kb.size,fun q hq _=>(kb.block q (Ns hq h.r.kp.size) (fun e=>?_)).trans (h.r.kp.block q hq (by simp))⟩;have:=h.r.bk.lo 4 g hgk;simp at e;omega
 .show (w.setCell ⟨g,i * 23+j,none⟩ v).ownsRow w0.heap.size 93 23 σ.vc (σ.cs.set i (c.set j v)).length _;rw [Od,hv];exact o4'
 .rcases Oq hd with q | q
  .exact h.r.len d q
  .obtain ⟨l1,l2⟩:=h.r.len c (NO hi);rw [q];refine ⟨by rw [Od];exact l1,fun u hu=>?_⟩;rcases Oq hu with q | q
   .exact l2 u q
   .rw [q];exact h1
 .obtain ⟨f1,f2,f3⟩:=h.r.fx f hf
  exact ⟨(kb.block f.1 (aN f1) (fun e=>f3 4 (by
   have:f.1=g:=by simpa using e
   rw [this];exact hgk))).trans f1,f2,by rw [eB];exact f3⟩
end
end Go.Proofs.YtiahkfoojjpaaaaGreatDoor
namespace Go.Proofs.YtiahkfoojjpaaaaGreatDoor
open Go.RowKit Go.Shelf
attribute [local go_sem] Oper.semAt_some
variable {Z:List (Nat×Obj)}
def ItsG (cd:Nat->In) (n D:Nat) (text:ByteArray) (bg:Nat):List (Nat->Int)->Nat->Mc->Prop
 | [],fr,s=>∀ s',Runs cd n D text bg (text.size+1 - fr) fr [] { s with fd:=false } s'->s'.fd=false
 | b::bs,fr,s=>∀ s',Runs cd n D text bg (text.size+1 - fr) fr [] { s with fd:=false } s'->s'.fd=true/\s'.dQ=b/\∃ fr':Nat,b 1=(fr':Int)/\uns s'.sn 0 ((text.size+1) * (n * (D+1))) < uns s.sn 0 ((text.size+1) * (n * (D+1)))/\fr'<=text.size+1/\ItsG cd n D text bg bs fr' s'
theorem Gq {w:World} {p g c n D bg G bt bp l:Nat} {text:ByteArray} {cd:Nat->In} {bs:List (Nat->Int)} {CV:List Nat} {Bd:Nat->List (Nat×Obj)->World->Prop} {X:World->Prop} (hcd:Cd w p g c n D cd) (p1:w.cell? ⟨p,1,none⟩=some (.int .i64 bg)) (p2:w.cell? ⟨p,2,none⟩=some (.int .i64 G)) (hbg:bg < n) (hn:n * (D+1)<=9000) (hG:G<=9) (htx:text.size<=5000)
  (hbt:w.cell? ⟨bt,0,none⟩=some (.string text)) (hbp:w.cell? ⟨bp,0,none⟩=some (.pointer (some ⟨p,0,none⟩)))
  (hCV:∀ T∈CV,T < w.heap.size/\T≠p/\T≠g/\T≠bt/\T≠bp) (hIts:ItsG cd n D text bg bs 0 mc0)
  (hkeep:∀ i Z W W',Bd i Z W->(∀ j,j < w.heap.size->W'.heap[j]? = W.heap[j]?)->(∀ e∈Z,W'.heap[e.1]? = some e.2)->W'.os=W.os->W'.tape=W.tape->W'.output=W.output->Bd i Z W') (h0:Bd 0 [] w)
  (hY:∀ (W1:World) (f m i:Nat) (b:Nat->Int) (Z:List (Nat×Obj)),bs[i]? = some b->Bd i Z W1->W1.rangeAt f 8 (nf b)->w.heap.size<=f->(∀ e∈Z,e.1≠f) ->
    YieldAt Fence.wide m Tryz.prog l #[.slice (some ⟨f,8,none⟩) (2+2 * G) 20] W1 fun e W'=>∃ S Z2,Kp S W1 W'/\(∀ T∈S,T∈CV\/∃ o,(T,o)∈Z)/\(∀ e∈Z2,W'.heap[e.1]? = some e.2/\((∃ o,(e.1,o)∈Z)\/W1.heap.size<=e.1))/\((e=.returned (.bool true)/\Bd (i+1) Z2 W')\/(e=.returned (.bool false)/\X W'))) :
  Calls Tryz.prog 89 #[.func (.yield l) #[] #[],.pointer (some ⟨bt,0,none⟩),.pointer (some ⟨bp,0,none⟩)] w fun e w'=>(∃ v,e=.returned v)/\((∃ Z,Bd bs.length Z w')\/X w'):=by
 have HKEEP:=hid hkeep;have H0:=hid h0;have HI:=hid hIts;have HCV:=hid hCV;clear hkeep h0 hIts hCV;have HCD:=hid hcd;have P1:=hid p1;have P2:=hid p2;have HY:=hid hY;have p0:=hcd.p0;have p3:=hcd.p3;obtain ⟨Q,hQ⟩:∃ Q,Q=n * (D+1):=⟨_,rfl⟩;rw [<-hQ] at hn;obtain ⟨D1,hD1⟩:∃ D1:Nat,(D:Int)+1=D1:=⟨D+1,by omega⟩;obtain ⟨T1,hT1⟩:∃ T1:Nat,(text.size:Int)+1=T1:=⟨text.size+1,by omega⟩;obtain ⟨A1,hA1⟩:∃ A1:Nat,(T1:Int) * (n:Int)=A1:=⟨T1 * n,by push_cast;rfl⟩;obtain ⟨S1,hS1⟩:∃ S1:Nat,(A1:Int) * (D1:Int)=S1:=⟨A1 * D1,by push_cast;rfl⟩;have eS1:S1=(text.size+1) * Q:=by
  have e1:D1=D+1:=by omega
  have e2:T1=text.size+1:=by omega
  have e3:A1=T1 * n:=by exact_mod_cast hA1.symm
  have e4:S1=A1 * D1:=by exact_mod_cast hS1.symm
  rw [e4,e3,e2,e1,hQ,Nat.mul_assoc]
 have hS1b:S1<=46000000:=by
  rw [eS1];exact Nx (Ol (show text.size+1<=5001 by omega) hn) (by decide)
 have hDn:D1<=9000:=by
  have h1:=NL (D+1) (show 1<=n by omega);rw [<-hQ] at h1;omega
 have hA1b:A1<=S1:=by
  have e4:S1=A1 * D1:=by exact_mod_cast hS1.symm
  rw [e4];exact Nat.le_mul_of_pos_right _ (by omega)
 have w1:=aa D1 (by omega);have w2:=aa T1 (by omega);have w3:=aa A1 (by omega);have w4:=aa S1 (by omega);have HQ:=hid (And.intro hQ eS1);have HE:=hid (And.intro hD1 (And.intro hT1 (And.intro hA1 hS1)));clear hcd p1 p2 hY hQ eS1;go_enter Tryz.func89,Tryz.ntmps89
 go_wp2_with fail;go_quiet (fail);have kq:=Kp.drewN [] w nq;have qt:(w.drewN nq).cell? ⟨bt,0,none⟩=some (.string text):=hbt;have qp:(w.drewN nq).cell? ⟨bp,0,none⟩=some (.pointer (some ⟨p,0,none⟩)):=hbp;have hz:Hid ((w.drewN nq).heap.size=w.heap.size):=hid (by simp);generalize w.drewN nq=U at *;clear hbt hbp p0 p3 w1 w2 w3 w4 hD1 hT1 hA1 hS1;obtain ⟨N,hN⟩:∃ N:Nat,N=S1 / 64+1:=⟨_,rfl⟩;have hN2:Hid ((text.size+1) * Q<=64 * N):=hid (by rw [<-HQ.out.2];omega);have hNb:N<=1000000:=by omega
 obtain ⟨M1,hM1⟩:∃ M1:Nat,M1=S1 / 64:=⟨_,rfl⟩;have hdiv:(S1:Int) / 64=(M1:Int):=by omega
 have hsum:(M1:Int)+1=(N:Int):=by omega
 have wM:=aa M1 (by omega);clear hM1;have wN:=aa N (by omega);have hmk:=fun w=>qE w N hNb;have HN:=hid hN;clear hN;go_wp2_with fail;rename_i K1 hK1;have HK1:=hid hK1;clear hK1;refine wp_region_noPanic ?_;refine az (fun w':World=>w'.cell? ⟨bp,0,none⟩=some (.pointer (some ⟨p,0,none⟩))/\w'.cell? ⟨bt,0,none⟩=some (.string text)) 8 (by kernel_rfl) ?_;have hS:(fun w':World=>w'.cell? ⟨bp,0,none⟩=some (.pointer (some ⟨p,0,none⟩))/\w'.cell? ⟨bt,0,none⟩=some (.string text)) U.drew:=⟨qp,qt⟩;iterate 5 (refine tkn (v:=?_) rfl (by kernel_rfl) (fun _ _ _ h=>h) ⟨rfl,fun w hSw=>?_⟩ hS ?_;rotate_left;(focus ((try dsimp only at hSw);go_simp;(try with_reducible rfl)));(try simp only [Nn,Nk,Nj,Act.put,Ni,Np,Nq]))
 refine eI (i:=5) (j:=7) (by kernel_rfl) rfl rfl (fun K hK=>?ga) (fun K hK=>?gb)
 case' ga=>
  go_simp;have hS1:(fun w':World=>w'.cell? ⟨bp,0,none⟩=some (.pointer (some ⟨p,0,none⟩))/\w'.cell? ⟨bt,0,none⟩=some (.string text)) ((U.alloc (.cells (zs N) 148)).drew):=⟨aF qp _,aF qt _⟩;refine hK.out _ _ (.inr hS1) ?_;clear hK K;refine tk1 6 (v:=?_) rfl (by kernel_rfl) (fun _ _ _ h=>h) ⟨rfl,fun w hSw=>?_⟩ hS1 ?_;rotate_left;· ((try dsimp only at hSw);go_simp;(try with_reducible rfl))
  (try simp only [Nn,Nk,Nj,Act.put,Ni,Np,Nq])
  refine ag (i:=7) (by kernel_rfl) rfl (fun K hK=>?_);go_simp;refine hK.out _ _ (.inr ⟨aF (w:=U.alloc (.cells (zs N) 148)) hS1.1 _,aF (w:=U.alloc (.cells (zs N) 148)) hS1.2 _⟩) ?_;clear hK K;refine ag (i:=8) (by kernel_rfl) rfl (fun K hK=>?_);rw [Ny (by rfl)];refine wp_store_mid 159 (.tmp 5) (.tmp 28) rfl (U.heap.size+1) 0 (gU p text U.heap.size N).toArray rfl rfl ?hth Tryz.JH (all_oneCell_toArray (jA p text U.heap.size N)) ?_
  case hth=>(have:=Mr (U.alloc (.cells (zs N) 148));simpa using this)
  refine hK.out _ _ (.inl rfl) ?_;clear hK K;refine ay (by kernel_rfl) ?_ _;refine NoPanic.normal ?_;simp only [Nn,Nk,Nj,Act.put];have fs:Fg [] U ((((U.alloc (.cells (zs N) 148)).alloc (.cells z28 159)).drew).setCells (U.heap.size+1) 0 (gU p text U.heap.size N).toArray.toList) (U.heap.size+1) p (U.heap.size) N 0 text [] (.slice none 0 0) (.slice none 0 0) (.slice none 0 0) mc0:=by
   refine Cc ((Kp.alloc _ _ _).trans ((Kp.alloc _ _ _).trans (Kp.drew _ _))) (by omega) (by omega) (by omega) ?_ ?_ ?_ ?_ (fun e he=>by cases he)
   .have:=Mr (U.alloc (.cells (zs N) 148));simpa using this
   .intro i;simp
   .simp;omega
   .exact fun i hi=>⟨by have:=dH U (zs N) 148 i _ (pU N i hi);rw [NJ] at this;exact aF this _,(lA (by have:=dH U (zs N) 148 i _ (pU N i hi);rwa [NJ] at this) (by simp) _)⟩
  generalize (((U.alloc (.cells (zs N) 148)).alloc (.cells z28 159)).drew).setCells (U.heap.size+1) 0 (gU p text U.heap.size N).toArray.toList=W at *;have hflo:w.heap.size<=U.heap.size+1:=by have:=hz.out;omega
  clear hS hS1;have hUz:Hid (U.heap.size=w.heap.size):=hz;obtain ⟨f,hfe⟩:∃ f,f=U.heap.size+1:=⟨_,rfl⟩;obtain ⟨sb,hsbe⟩:∃ sb,sb=U.heap.size:=⟨_,rfl⟩;rw [<-hfe,<-hsbe] at fs
 case' gb=>
  go_simp;have hS1:(fun w':World=>w'.cell? ⟨bp,0,none⟩=some (.pointer (some ⟨p,0,none⟩))/\w'.cell? ⟨bt,0,none⟩=some (.string text)) ((U.alloc (.cells z28 159)).drew):=⟨aF qp _,aF qt _⟩;refine hK.out _ _ (.inr hS1) ?_;clear hK K;refine ag (i:=5) (by kernel_rfl) rfl (fun K hK=>?_);go_simp;have hS2:(fun w':World=>w'.cell? ⟨bp,0,none⟩=some (.pointer (some ⟨p,0,none⟩))/\w'.cell? ⟨bt,0,none⟩=some (.string text)) (((U.alloc (.cells z28 159)).alloc (.cells (zs N) 148)).drew):=⟨aF (w:=U.alloc (.cells z28 159)) hS1.1 _,aF (w:=U.alloc (.cells z28 159)) hS1.2 _⟩;refine hK.out _ _ (.inr hS2) ?_;clear hK K;refine tk1 6 (v:=?_) rfl (by kernel_rfl) (fun _ _ _ h=>h) ⟨rfl,fun w hSw=>?_⟩ hS2 ?_;rotate_left;· ((try dsimp only at hSw);go_simp;(try with_reducible rfl))
  (try simp only [Nn,Nk,Nj,Act.put,Ni,Np,Nq])
  refine ag (i:=8) (by kernel_rfl) rfl (fun K hK=>?_);rw [Ny (by rfl)];refine wp_store_mid 159 (.tmp 5) (.tmp 28) rfl U.heap.size 0 (gU p text (U.heap.size+1) N).toArray rfl rfl ?hth Tryz.JH (all_oneCell_toArray (jA p text (U.heap.size+1) N)) ?_
  case hth=>exact lW (Mr U) _
  refine hK.out _ _ (.inl rfl) ?_;clear hK K;refine ay (by kernel_rfl) ?_ _;refine NoPanic.normal ?_;simp only [Nn,Nk,Nj,Act.put];have hsB:(U.alloc (.cells z28 159)).heap.size=U.heap.size+1:=by simp
  have fs:Fg [] U ((((U.alloc (.cells z28 159)).alloc (.cells (zs N) 148)).drew).setCells U.heap.size 0 (gU p text (U.heap.size+1) N).toArray.toList) (U.heap.size) p (U.heap.size+1) N 0 text [] (.slice none 0 0) (.slice none 0 0) (.slice none 0 0) mc0:=by
   refine Cc ((Kp.alloc _ _ _).trans ((Kp.alloc _ _ _).trans (Kp.drew _ _))) (by omega) (by omega) (by omega) ?_ ?_ ?_ ?_ (fun e he=>by cases he)
   .exact lW (Mr U) _
   .intro i;simp
   .simp
   .exact fun i hi=>⟨by have:=dH (U.alloc (.cells z28 159)) (zs N) 148 i _ (pU N i hi);rw [NJ,hsB] at this;exact this,by show ((U.alloc (.cells z28 159)).alloc (.cells (zs N) 148)).frozen? _=false;have:=fun j=>(show ((U.alloc (.cells z28 159)).alloc (.cells (zs N) 148)).frozen? ⟨(U.alloc (.cells z28 159)).heap.size,j,none⟩=false by simp);rw [hsB] at this;exact this i⟩
  generalize (((U.alloc (.cells z28 159)).alloc (.cells (zs N) 148)).drew).setCells U.heap.size 0 (gU p text (U.heap.size+1) N).toArray.toList=W at *;have hflo:w.heap.size<=U.heap.size:=by have:=hz.out;omega
  clear hS hS1 hS2 hsB;have hUz:Hid (U.heap.size=w.heap.size):=hz;obtain ⟨f,hfe⟩:∃ f,f=U.heap.size:=⟨_,rfl⟩;obtain ⟨sb,hsbe⟩:∃ sb,sb=U.heap.size+1:=⟨_,rfl⟩;rw [<-hsbe,<-hfe] at fs
 all_goals
  rw [<-hfe] at hflo ⊢;clear hfe hsbe;have FS:=hid fs;clear fs hmk wN wM hsum hdiv;refine HK1.out _ _ ?_;clear HK1 K1;obtain ⟨G2,hG2⟩:∃ G2:Nat,(2:Int) * (G:Int)=(G2:Int):=⟨2 * G,by push_cast;rfl⟩;obtain ⟨mm,hm⟩:∃ mm:Nat,(2:Int)+(G2:Int)=(mm:Int):=⟨2+G2,by push_cast;rfl⟩;have wg:=aa G2 (by omega);have wm:=aa mm (by omega);have hm20:mm<=20:=by omega
  have HMM:Hid (2+2 * G=mm):=hid (by omega);have hsl:∀ V:World,(Instr.sliceAt 157 (.pointer (some ⟨f,8,none⟩)) none (some (.int .i64 (mm:Int))) none).run Tryz.prog V=.ok (.slice (some ⟨f,8,none⟩) mm 20) V:=fun V=>jT V f mm hm20;have BD0:Hid (Bd 0 [] W):=hid (HKEEP.out 0 [] w W H0.out (fun j hj=>(kq.trans FS.out.kp).block j hj (by simp)) (fun e he=>by cases he) (kq.trans FS.out.kp).os (kq.trans FS.out.kp).tape (kq.trans FS.out.kp).output);have HU:Hid (Cd U p g c n D cd/\U.cell? ⟨p,1,none⟩=some (.int .i64 bg)/\U.cell? ⟨p,2,none⟩=some (.int .i64 G)):=hid ⟨HCD.out.aj kq,(kq.cell (p:=⟨p,1,none⟩) HCD.out.hp (by simp)).trans P1.out,(kq.cell (p:=⟨p,2,none⟩) HCD.out.hp (by simp)).trans P2.out⟩;have QT:=hid (And.intro qp qt);clear qp qt;obtain ⟨M,hM⟩:∃ M,M=(text.size+1) * (n * (D+1)):=⟨_,rfl⟩;have HMN:Hid (0+M<=64 * N):=hid (by rw [hM,<-HQ.out.1,NJ];exact hN2.out);have HM:=hid hM;clear hM;refine (wpIn_wide (n:=3)).1 ?_
  gi_wp2
  gi_loopw [6] (fun v wr=>∃ (fr i:Nat) (Z:List (Nat×Obj)) (wb:World) (s:Mc) (pl:Nat) (u3 u4 u5:Value),v=.int .i64 fr/\fr<=text.size+1/\i<=bs.length/\Hid (Fg Z wb wr f p sb N pl text [] u3 u4 u5 s)/\Hid (s.left=[]/\s.ahead=[])/\Hid (wb.heap.size=w.heap.size)/\Hid (Cd wb p g c n D cd/\wb.cell? ⟨p,1,none⟩=some (.int .i64 bg)/\wb.cell? ⟨p,2,none⟩=some (.int .i64 G))/\Hid (wb.cell? ⟨bp,0,none⟩=some (.pointer (some ⟨p,0,none⟩))/\wb.cell? ⟨bt,0,none⟩=some (.string text))/\Hid (Bd i Z wr)/\Hid (ItsG cd n D text bg (bs.drop i) fr s)/\Hid (∀ e∈Z,w.heap.size<=e.1)) (fun _ wr=>Jr wr sb 0 M)
  case atStart=>exact ⟨0,0,[],U,mc0,0,_,_,_,rfl,by omega,by omega,FS,hid ⟨rfl,rfl⟩,hUz,HU,QT,BD0,HI,hid (fun e he=>by cases he)⟩
  case round=>
   clear FS BD0 HU QT HI;obtain ⟨fr,i,Z,wb,s,pl,u3,u4,u5,rfl,hfr,hib,FS,HL,HB,HCW,HCE,HBD,HIT,HZL⟩:=hrel
   gi_wp2_with fail
   refine ⟨trivial,?_⟩;refine (callsIn_wide.2 (jU (fr:=fr) FS.out HL.out.1 HL.out.2 HCW.out.1 HCW.out.2.1 hbg (by rw [<-HQ.out.1];exact hn) (by rw [<-HQ.out.1];exact hN2.out) hNb htx hfr)).mono ?_;rintro e W1 ⟨s',pl',x3,x4,x5,rfl,fg,hl1,ha1,runs⟩;have FG:=hid fg;have RU:=hid runs;have HLA:=hid (And.intro hl1 ha1);have b0:=(fg.kp.cell (p:=⟨bp,0,none⟩) (World.block_lt_of_cell? _ _ HCE.out.1) (by simp)).trans HCE.out.1;have b2:=(fg.kp.cell (p:=⟨p,2,none⟩) HCW.out.1.hp (by simp)).trans HCW.out.2.2;have BD1:Hid (Bd i Z W1):=hid (HKEEP.out i Z _ W1 HBD.out (fun j hj=>(fg.kp.block j (by rw [HB.out];exact hj) (by simp)).trans (FS.out.kp.block j (by rw [HB.out];exact hj) (by simp)).symm) (fun e he=>(fg.fx e he).1) (fg.kp.os.trans FS.out.kp.os.symm) (fg.kp.tape.trans FS.out.kp.tape.symm) (fg.kp.output.trans FS.out.kp.output.symm));clear runs fg hl1 ha1;obtain ⟨fdv,hfdv⟩:∃ b,s'.fd=b:=⟨_,rfl⟩;rw [hfdv]
   have hit:=HIT.out
   cases fdv with
   | false=>
    have HE:Hid (i=bs.length):=hid (by
     by_cases q:i < bs.length
     .rw [N3 q] at hit;have:=(hit s' RU.out).1;rw [hfdv] at this
      cases this
     .omega)
    clear hit
    gi_wp2
    go_end0;exact ⟨⟨_,rfl⟩,.inl ⟨Z,by rw [<-HE.out];exact BD1.out⟩⟩
   | true=>
    by_cases q:i < bs.length
    case neg=>
     rw [OS (by omega)] at hit;have:=hit s' RU.out;rw [hfdv] at this
     cases this
    rw [N3 q] at hit;obtain ⟨_,hbest,fr',hb1,hun,hle,hits⟩:=hit s' RU.out;have HUN:Hid (uns s'.sn 0 M < uns s.sn 0 M):=hid (by rw [HM.out];exact hun);clear hun;obtain ⟨fn,tmps,assign,body,hy,hR⟩:=HY.out W1 f 2 i bs[i] Z (Nv q) BD1.out (by rw [<-hbest];exact FG.out.dQ) hflo (fun e he=>(FG.out.fx e he).2.1);rw [HMM.out] at hy;have HR:=hid hR;have HITS:=hid hits;have HB1:=hid (And.intro hbest hb1);clear hR hits hit hbest hb1
    gi_wp2
    refine HR.out.mono ?_;rintro e W2 ⟨S,Z2,kS,hS,hZ2,(⟨rfl,hB⟩ | ⟨rfl,hX⟩)⟩
    .have hS':∀ T∈S,T < wb.heap.size\/∃ o,(T,o)∈Z:=fun T hT=>by
      rcases hS T hT with r | r
      .exact .inl (by rw [HB.out];exact (HCV.out T r).1)
      .exact .inr r
     have fg2:=FG.out.Gi kS hS' hZ2;have nin:∀ x,x < w.heap.size->x∉CV->x∉S:=fun x hx hn m=>by
      rcases hS x m with r | ⟨o,r⟩
      .exact hn r
      .have:=HZL.out _ r;simp at this;omega
     have bk:∀ x,x < w.heap.size->x∉CV->(IA W2 wb.heap.size).heap[x]? = wb.heap[x]?:=fun x hx hn=>
      (Ch (Nx FG.out.kp.size kS.size) (by rw [HB.out];exact hx)).trans ((kS.block x (Ns (by rw [HB.out];exact hx) FG.out.kp.size) (nin x hx hn)).trans (FG.out.kp.block x (by rw [HB.out];exact hx) (by simp)))
     have hpl:p < w.heap.size:=by rw [<-HB.out];exact HCW.out.1.hp
     have hgl:g < w.heap.size:=by rw [<-HB.out];exact HCW.out.1.hg
     have hbpl:bp < w.heap.size:=by rw [<-HB.out];exact World.block_lt_of_cell? _ _ HCE.out.1
     have hbtl:bt < w.heap.size:=by rw [<-HB.out];exact World.block_lt_of_cell? _ _ HCE.out.2
     have bkp:=bk p hpl (fun m=>(HCV.out p m).2.1 rfl);have bkg:=bk g hgl (fun m=>(HCV.out g m).2.2.1 rfl);have bkt:=bk bt hbtl (fun m=>(HCV.out bt m).2.2.2.1 rfl);have bkb:=bk bp hbpl (fun m=>(HCV.out bp m).2.2.2.2 rfl);have HC2:Hid (Cd (IA W2 wb.heap.size) p g c n D cd/\(IA W2 wb.heap.size).cell? ⟨p,1,none⟩=some (.int .i64 bg)/\(IA W2 wb.heap.size).cell? ⟨p,2,none⟩=some (.int .i64 G)):=hid ⟨HCW.out.1.blocks bkp bkg,(World.cell?_of_block bkp).trans HCW.out.2.1,(World.cell?_of_block bkp).trans HCW.out.2.2⟩;have HE2:Hid ((IA W2 wb.heap.size).cell? ⟨bp,0,none⟩=some (.pointer (some ⟨p,0,none⟩))/\(IA W2 wb.heap.size).cell? ⟨bt,0,none⟩=some (.string text)):=hid ⟨(World.cell?_of_block bkb).trans HCE.out.1,(World.cell?_of_block bkt).trans HCE.out.2⟩
     have HZ2:Hid (∀ e∈Z2,w.heap.size<=e.1):=hid (fun e he=>by
      rcases (hZ2 e he).2 with ⟨o,r⟩ | r
      .exact HZL.out (e.1,o) r
      .have:=FG.out.kp.size;rw [HB.out] at this
       omega)
     have c9:W2.cell? ⟨f,8+1,none⟩=some (.int .i64 (fr':Int)):=by
      have:=fg2.dQ 1 _ rfl;rw [this]
      congr 2
      rw [HB1.out.1];exact HB1.out.2
     have c9':W2.cell? ⟨f,9,none⟩=some (.int .i64 (fr':Int)):=c9;have F2:=hid fg2;have HSZ:Hid ((IA W2 wb.heap.size).heap.size=w.heap.size):=hid ((jC (Nx FG.out.kp.size kS.size)).trans HB.out);have HBB:=hid hB;clear bk nin fg2 hS hS' hZ2 bkp bkg bkt bkb kS hB
     gi_wp2
     go_round
     case rel=>exact ⟨fr',i+1,Z2,_,s',pl',x3,x4,x5,rfl,hle,by omega,F2,HLA,HSZ,HC2,HE2,HBB,HITS,HZ2⟩
     case measure=>rw [F2.out.uns 0 M HMN.out,FS.out.uns 0 M HMN.out];exact HUN.out
    .gi_wp2
     refine bodyPost_ret (results_none rfl _ _ _) rfl ?_;exact ⟨⟨_,rfl⟩,.inr hX⟩
