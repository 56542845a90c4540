/- What the claim needs of: FEToFF FGToFJ KJ VC. -/
import Derived.Test.YtiahkfoojjpaaaaGreatDoorW20
import Derived.Test.YtiahkfoojjpaaaaGreatDoorW12
import Derived.Deep.LoopGhost
import Derived.Test.YtiahkfoojjpaaaaGreatDoorW21
import Derived.Test.YtiahkfoojjpaaaaGreatDoorW10
set_option maxRecDepth 100000
set_option maxHeartbeats 16000000
set_option linter.unusedVariables false
set_option linter.unusedSimpArgs false
namespace Go.Proofs.YtiahkfoojjpaaaaGreatDoor
open Go.RowKit
section
variable {w0 w w' w2:World} {mb sb db lo hi:Nat} {s s':Mst} {σ:Sst}
abbrev nJ:List Value:=[.string ⟨#[]⟩,.bool false,.int .i64 0,.int .i64 0]
theorem iK (o:List UInt8) (ov:Bool) (er st:Nat):∀ u∈fJ o ov er st,u.oneCell'=true:=fun u hu=>by
 simp only [fJ,OQ,Pr,or_false] at hu;rcases hu with h | h | h | h <;> subst h <;> rfl
theorem de.stored {p:Pst} {x:Nat} {vs:List Value} (hx:x=w.heap.size) (h:Mac w0 w mb sb db s) (g:de w0 mb sb db (w.alloc (.cells nJ.toArray 31)) s w' p) (hl:vs.length=4) :
  de w0 mb sb db w s (w'.setCells x 0 vs) p/\Bl (w'.setCells x 0 vs) x vs:=by
 obtain ⟨s1,e1,m1,g1⟩:=g;have ka:=Kp.alloc [] w (.cells nJ.toArray 31);have far:=(h.dR (Od w.heap.size)).2;have B0:=Bl.alloc w nJ 31;have B1:=g1.bl B0 far;rw [<-hx] at B1 B0 far;have kx:Kp [x] w' (w'.setCells x 0 vs):=dL (by simp) _ _ _;have fx:∀ i,maB mb db s1.r i≠some x:=fun i e=>by
  rcases g1.from_ i x e with ⟨j,hj⟩ | q
  .exact far j hj
  .have:=B0.lt;omega
 have gw:Gr mb db w s.r w' s1.r:=(Gr.df ka (fun _ e=>by cases e)).trans g1;refine ⟨⟨s1,e1,m1.other kx (fun y hy=>?_),⟨Oc gw.size kx.size,gw.from_,fun p hp hn=>(kx.block p (N8 hp gw.size) (fun e=>?_)).trans (gw.same p hp hn)⟩⟩,B1.put (by simpa using hl)⟩
 .simp at hy;rw [hy];exact ⟨by rw [hx];exact h.r.kp.size,fx⟩
 .simp at e;rw [e,hx] at hp;omega
theorem IH {eb:Nat} (h:w.cell? ⟨eb,0,none⟩=some (.pointer (some ⟨mb,0,none⟩))) :
  Calls Tryz.prog 26 #[.pointer (some ⟨eb,0,none⟩)] w fun r w'=>r=.returned (.bool false)/\w'=w:=by
 go_enter Tryz.func26,Tryz.ntmps26
 go_wp2_with fail;go_ret;exact ⟨rfl,rfl⟩
theorem Bl.fH {x:Nat} (hx:x=w.heap.size) (h:Mac w0 w mb sb db s) (g:Gr mb db (w.alloc (.cells nJ.toArray 31)) s.r w' s'.r):w'.there x 0 4:=by
 have B2:=g.bl (Bl.alloc w nJ 31) (h.dR (Od _)).2;subst hx;intro j hj;rw [Oi];have:j < nJ.length:=hj;rw [B2.at_ j _ (Ob this)];exact ⟨rfl,B2.free j⟩
theorem efeed_v {data:ByteArray} {eb:Nat} {o:List UInt8} {ov:Bool} {er st:Nat} {p':Pst} (h:Mac w0 w mb sb db s) (he:w.cell? ⟨eb,0,none⟩=some (.pointer (some ⟨mb,0,none⟩)))
  (hf:∀ wx,Mac w0 wx mb sb db s->Calls Tryz.prog 27 #[.pointer (some ⟨mb,0,none⟩),.string data] wx fun r w'=>r=.returned (.agg (fJ o ov er st).toArray)/\de w0 mb sb db wx s w' p') :
  Calls Tryz.prog 13 #[.pointer (some ⟨eb,0,none⟩),.string data] w fun r w'=>r=.returned (.agg (fJ o ov er st).toArray)/\de w0 mb sb db w s w' p':=by
 have ka:=Kp.alloc [] w (.cells nJ.toArray 31);have m1:=h.aj ka;have HF:=hid (hf _ m1);have he1:(w.alloc (.cells nJ.toArray 31)).cell? ⟨eb,0,none⟩=some (.pointer (some ⟨mb,0,none⟩)):=(ka.cell (p:=⟨eb,0,none⟩) (World.block_lt_of_cell? _ _ he) (by simp)).trans he;have HID:=hid (IH he1);clear hf;go_enter Tryz.func13,Tryz.ntmps13
 go_wp2_with fail;refine HID.out.mono ?_;rintro r w1 ⟨rfl,rfl⟩;go_wp2_with fail;refine HF.out.mono ?_;rintro r w2 ⟨rfl,s2,e2,n2,g2⟩;have GG:=hid (de.stored (vs:=fJ o ov er st) rfl h ⟨s2,e2,n2,g2⟩ rfl);have HTH:=hid (Bl.fH rfl h g2);clear HF HID;go_wp2_with (refine wpList_store_mid rfl 31 (.tmp 4) (.tmp 13) rfl w.heap.size 0 (fJ o ov er st).toArray rfl rfl HTH.out Tryz.eP (all_oneCell_toArray (iK _ _ _ _)) ?_)
 refine bodyPost_ret (eD (p:=4) (ty:=31) (by rw [Tryz.results13]) _ _ w.heap.size 0 rfl _ _ GG.out.2.range Tryz.underlying31 rfl (by rw [Tryz.eP];rfl)) rfl ⟨rfl,GG.out.1⟩
theorem eend_v {eb:Nat} {o:List UInt8} {ov:Bool} {er st:Nat} {p':Pst} (h:Mac w0 w mb sb db s) (he:w.cell? ⟨eb,0,none⟩=some (.pointer (some ⟨mb,0,none⟩)))
  (hf:∀ wx,Mac w0 wx mb sb db s->Calls Tryz.prog 28 #[.pointer (some ⟨mb,0,none⟩)] wx fun r w'=>r=.returned (.agg (fJ o ov er st).toArray)/\de w0 mb sb db wx s w' p') :
  Calls Tryz.prog 14 #[.pointer (some ⟨eb,0,none⟩)] w fun r w'=>r=.returned (.agg (fJ o ov er st).toArray)/\de w0 mb sb db w s w' p':=by
 have ka:=Kp.alloc [] w (.cells nJ.toArray 31);have m1:=h.aj ka;have HF:=hid (hf _ m1);have he1:(w.alloc (.cells nJ.toArray 31)).cell? ⟨eb,0,none⟩=some (.pointer (some ⟨mb,0,none⟩)):=(ka.cell (p:=⟨eb,0,none⟩) (World.block_lt_of_cell? _ _ he) (by simp)).trans he;have HID:=hid (IH he1);clear hf;go_enter Tryz.func14,Tryz.ntmps14
 go_wp2_with fail;refine HID.out.mono ?_;rintro r w1 ⟨rfl,rfl⟩;go_wp2_with fail;refine HF.out.mono ?_;rintro r w2 ⟨rfl,s2,e2,n2,g2⟩;have GG:=hid (de.stored (vs:=fJ o ov er st) rfl h ⟨s2,e2,n2,g2⟩ rfl);have HTH:=hid (Bl.fH rfl h g2);clear HF HID;go_wp2_with (refine wpList_store_mid rfl 31 (.tmp 2) (.tmp 10) rfl w.heap.size 0 (fJ o ov er st).toArray rfl rfl HTH.out Tryz.eP (all_oneCell_toArray (iK _ _ _ _)) ?_)
 refine bodyPost_ret (eD (p:=2) (ty:=31) (by rw [Tryz.results14]) _ _ w.heap.size 0 rfl _ _ GG.out.2.range Tryz.underlying31 rfl (by rw [Tryz.eP];rfl)) rfl ⟨rfl,GG.out.1⟩
end
section
variable {w0 w w':World} {mb sb db lo hi:Nat} {s s':Mst} {σ:Sst}
def wh (ls:List (List UInt8)):List UInt8:=ls.flatMap (fun l=>l++[10])
end
end Go.Proofs.YtiahkfoojjpaaaaGreatDoor
namespace Go.Proofs.YtiahkfoojjpaaaaGreatDoor
open Go.RowKit Go.Shelf
attribute [local go_sem] Oper.semAt_some
variable {Z:List (Nat×Obj)}
def Jb (W:World) (n:Nat):World:={ W with heap:=W.heap.extract 0 n }
theorem jQ {W:World} {n:Nat} (h:n<=W.heap.size):(Jb W n).heap.size=n:=by
 show (W.heap.extract 0 n).size=n;rw [Array.size_extract];omega
theorem CX {W:World} {n j:Nat} (h:n<=W.heap.size) (hj:j < n):(Jb W n).heap[j]? = W.heap[j]?:=by
 show (W.heap.extract 0 n)[j]? = _;rw [Array.getElem?_extract,Oa (by omega)]
 congr 1;omega
theorem cutW_kp {W:World} {n:Nat} (h:n<=W.heap.size):Kp [] (Jb W n) W:=
 ⟨rfl,rfl,rfl,by rw [jQ h];exact h,fun j hj _=>(CX h (by rw [jQ h] at hj;exact hj)).symm⟩
theorem Cd.blocks {w w2:World} {p g c n D:Nat} {cd:Nat->In} (h:Cd w p g c n D cd) (e1:w2.heap[p]? = w.heap[p]?) (e2:w2.heap[g]? = w.heap[g]?):Cd w2 p g c n D cd:=by
 have cg:∀ i,w2.cell? ⟨g,i,none⟩=w.cell? ⟨g,i,none⟩:=fun i=>World.cell?_of_block e2;have cp:∀ i,w2.cell? ⟨p,i,none⟩=w.cell? ⟨p,i,none⟩:=fun i=>World.cell?_of_block e1;have l1:p < w2.heap.size:=lt_of_block (e1.trans (OJ h.hp));have l2:g < w2.heap.size:=lt_of_block (e2.trans (OJ h.hg))
 exact ⟨l1,l2,(cp _).trans h.p0,(cp _).trans h.p3,fun a ha=>(cg _).trans (h.k0 a ha),fun a ha=>(cg _).trans (h.k1 a ha),fun a ha=>(cg _).trans (h.k2 a ha),fun a ha=>(cg _).trans (h.k3 a ha),fun a ha=>(cg _).trans (h.k4 a ha),
  fun a ha=>(cg _).trans (h.k5 a ha),fun a ha=>(cg _).trans (h.k6 a ha),fun a ha=>(cg _).trans (h.k7 a ha),fun a ha=>(cg _).trans (h.k8 a ha),h.ok⟩
section
variable {w W W':World} {f p sb N pl:Nat} {text:ByteArray} {here:List Thr} {v3 v4 v5:Value} {s:Mc}
theorem Fg.He {S:List Nat} {Z2:List (Nat×Obj)} (h:Fg Z w W f p sb N pl text here v3 v4 v5 s) (k:Kp S W W') (hS:∀ T∈S,T < w.heap.size\/∃ o,(T,o)∈Z) (hZ:∀ e∈Z2,W'.heap[e.1]? = some e.2/\((∃ o,(e.1,o)∈Z)\/W.heap.size<=e.1)) :
  Fg Z2 (Jb W' w.heap.size) W' f p sb N pl text here v3 v4 v5 s:=by
 have hz:w.heap.size<=W'.heap.size:=Oc h.kp.size k.size;have hsz:=jQ hz;have hf:=h.flt;have nS:∀ T,w.heap.size<=T->(∀ e∈Z,e.1≠T)->T∉S:=fun T hT hn m=>by
  rcases hS T m with q | ⟨o,q⟩
  .omega
  .exact hn _ q rfl
 have hfS:f∉S:=nS f h.flo (fun e he=>(h.fx e he).2.1);have hsS:sb∉S:=nS sb h.slo (fun e he=>(h.fx e he).2.2.1);have n3:∀ j,v3.ownBlock=some j->j∉S:=fun j hj=>nS j (h.o3.lt j hj).1 (fun e he q=>(h.fx e he).2.2.2.1 (by rw [q];exact hj));have n4:∀ j,v4.ownBlock=some j->j∉S:=fun j hj=>nS j (h.o4.lt j hj).1 (fun e he q=>(h.fx e he).2.2.2.2.1 (by rw [q];exact hj));have n5:∀ j,v5.ownBlock=some j->j∉S:=fun j hj=>nS j (h.o5.lt j hj).1 (fun e he q=>(h.fx e he).2.2.2.2.2 (by rw [q];exact hj));have cf:∀ i,W'.cell? ⟨f,i,none⟩=W.cell? ⟨f,i,none⟩:=fun i=>k.cell (p:=⟨f,i,none⟩) hf hfS;have ff:∀ i,W'.frozen? ⟨f,i,none⟩=W.frozen? ⟨f,i,none⟩:=fun i=>k.frozen (p:=⟨f,i,none⟩) hf hfS;have z3:∀ e∈Z2,e.1≠f/\e.1≠sb/\v3.ownBlock≠some e.1/\v4.ownBlock≠some e.1/\v5.ownBlock≠some e.1:=fun e he=>by
  rcases (hZ e he).2 with ⟨o,q⟩ | q
  .exact (h.fx _ q).2
  .have:=h.slt;exact ⟨by omega,by omega,fun r=>by have:=(h.o3.lt _ r).2;omega,fun r=>by have:=(h.o4.lt _ r).2;omega,fun r=>by have:=(h.o5.lt _ r).2;omega⟩
 refine ⟨cutW_kp hz,by rw [hsz];exact h.flo,by rw [hsz];exact h.slo,h.ne,(cf _).trans h.c0,(cf _).trans h.c1,(cf _).trans h.c2,(cf _).trans h.c3,(cf _).trans h.c4,(cf _).trans h.c5,(cf _).trans h.c6,(cf _).trans h.c7,fun j v hv=>(cf _).trans (h.eN j v hv),fun i=>(ff i).trans (h.free i),N8 h.slt k.size,fun i hi=>?_,
  by rw [hsz];exact au h.o3 (fun j hj hl=>k.block j hl (n3 j hj)),by rw [hsz];exact au h.o4 (fun j hj hl=>k.block j hl (n4 j hj)),by rw [hsz];exact au h.o5 (fun j hj hl=>k.block j hl (n5 j hj)),h.x3,h.x4,h.x5,fun e he=>⟨(hZ e he).1,z3 e he⟩⟩
 have q:=h.seen i hi;exact ⟨(k.cell (p:=⟨sb,i,none⟩) h.slt hsS).trans q.1,(k.frozen (p:=⟨sb,i,none⟩) h.slt hsS).trans q.2⟩
end
attribute [local go_sem] Oper.semAt_some
variable {Z:List (Nat×Obj)}
def ItsG (cd:Nat->In) (n D:Nat) (text:ByteArray) (bg:Nat):List (Nat->Int)->Nat->Mc->Prop
 | [],fr,s=>∀ s',Runs cd n D text bg (text.size+1 - fr) fr [] { s with fd:=false } s'->s'.fd=false
 | b::bs,fr,s=>∀ s',Runs cd n D text bg (text.size+1 - fr) fr [] { s with fd:=false } s'->s'.fd=true/\s'.eN=b/\∃ fr':Nat,b 1=(fr':Int)/\uns s'.sn 0 ((text.size+1) * (n * (D+1))) < uns s.sn 0 ((text.size+1) * (n * (D+1)))/\fr'<=text.size+1/\ItsG cd n D text bg bs fr' s'
theorem Hj {w:World} {p g c n D bg G bt bp l:Nat} {text:ByteArray} {cd:Nat->In} {bs:List (Nat->Int)} {CV:List Nat} {Bd:Nat->List (Nat×Obj)->World->Prop} {X:World->Prop} (hcd:Cd w p g c n D cd) (p1:w.cell? ⟨p,1,none⟩=some (.int .i64 bg)) (p2:w.cell? ⟨p,2,none⟩=some (.int .i64 G)) (hbg:bg < n) (hn:n * (D+1)<=9000) (hG:G<=9) (htx:text.size<=5000)
  (hbt:w.cell? ⟨bt,0,none⟩=some (.string text)) (hbp:w.cell? ⟨bp,0,none⟩=some (.pointer (some ⟨p,0,none⟩)))
  (hCV:∀ T∈CV,T < w.heap.size/\T≠p/\T≠g/\T≠bt/\T≠bp) (hIts:ItsG cd n D text bg bs 0 mc0)
  (hkeep:∀ i Z W W',Bd i Z W->(∀ j,j < w.heap.size->W'.heap[j]? = W.heap[j]?)->(∀ e∈Z,W'.heap[e.1]? = some e.2)->W'.os=W.os->W'.tape=W.tape->W'.output=W.output->Bd i Z W') (h0:Bd 0 [] w)
  (hY:∀ (W1:World) (f m i:Nat) (b:Nat->Int) (Z:List (Nat×Obj)),bs[i]? = some b->Bd i Z W1->W1.rangeAt f 8 (nf b)->w.heap.size<=f->(∀ e∈Z,e.1≠f) ->
    YieldAt Fence.wide m Tryz.prog l #[.slice (some ⟨f,8,none⟩) (2+2 * G) 20] W1 fun e W'=>∃ S Z2,Kp S W1 W'/\(∀ T∈S,T∈CV\/∃ o,(T,o)∈Z)/\(∀ e∈Z2,W'.heap[e.1]? = some e.2/\((∃ o,(e.1,o)∈Z)\/W1.heap.size<=e.1))/\((e=.returned (.bool true)/\Bd (i+1) Z2 W')\/(e=.returned (.bool false)/\X W'))) :
  Calls Tryz.prog 89 #[.func (.yield l) #[] #[],.pointer (some ⟨bt,0,none⟩),.pointer (some ⟨bp,0,none⟩)] w fun e w'=>(∃ v,e=.returned v)/\((∃ Z,Bd bs.length Z w')\/X w'):=by
 have HKEEP:=hid hkeep;have H0:=hid h0;have HI:=hid hIts;have HCV:=hid hCV;clear hkeep h0 hIts hCV;have HCD:=hid hcd;have P1:=hid p1;have P2:=hid p2;have HY:=hid hY;have p0:=hcd.p0;have p3:=hcd.p3;obtain ⟨Q,hQ⟩:∃ Q,Q=n * (D+1):=⟨_,rfl⟩;rw [<-hQ] at hn;obtain ⟨D1,hD1⟩:∃ D1:Nat,(D:Int)+1=D1:=⟨D+1,by omega⟩;obtain ⟨T1,hT1⟩:∃ T1:Nat,(text.size:Int)+1=T1:=⟨text.size+1,by omega⟩;obtain ⟨A1,hA1⟩:∃ A1:Nat,(T1:Int) * (n:Int)=A1:=⟨T1 * n,by push_cast;rfl⟩;obtain ⟨S1,hS1⟩:∃ S1:Nat,(A1:Int) * (D1:Int)=S1:=⟨A1 * D1,by push_cast;rfl⟩;have eS1:S1=(text.size+1) * Q:=by
  have e1:D1=D+1:=by omega
  have e2:T1=text.size+1:=by omega
  have e3:A1=T1 * n:=by exact_mod_cast hA1.symm
  have e4:S1=A1 * D1:=by exact_mod_cast hS1.symm
  rw [e4,e3,e2,e1,hQ,Nat.mul_assoc]
 have hS1b:S1<=46000000:=by
  rw [eS1];exact Oc (O0 (show text.size+1<=5001 by omega) hn) (by decide)
 have hDn:D1<=9000:=by
  have h1:=On (D+1) (show 1<=n by omega);rw [<-hQ] at h1;omega
 have hA1b:A1<=S1:=by
  have e4:S1=A1 * D1:=by exact_mod_cast hS1.symm
  rw [e4];exact Nat.le_mul_of_pos_right _ (by omega)
 have w1:=aa D1 (by omega);have w2:=aa T1 (by omega);have w3:=aa A1 (by omega);have w4:=aa S1 (by omega);have HQ:=hid (And.intro hQ eS1);have HE:=hid (And.intro hD1 (And.intro hT1 (And.intro hA1 hS1)));clear hcd p1 p2 hY hQ eS1;go_enter Tryz.func89,Tryz.ntmps89
 go_wp2_with fail;go_quiet (fail);have kq:=Kp.drewN [] w nq;have qt:(w.drewN nq).cell? ⟨bt,0,none⟩=some (.string text):=hbt;have qp:(w.drewN nq).cell? ⟨bp,0,none⟩=some (.pointer (some ⟨p,0,none⟩)):=hbp;have hz:Hid ((w.drewN nq).heap.size=w.heap.size):=hid (by simp);generalize w.drewN nq=U at *;clear hbt hbp p0 p3 w1 w2 w3 w4 hD1 hT1 hA1 hS1;obtain ⟨N,hN⟩:∃ N:Nat,N=S1 / 64+1:=⟨_,rfl⟩;have hN2:Hid ((text.size+1) * Q<=64 * N):=hid (by rw [<-HQ.out.2];omega);have hNb:N<=1000000:=by omega
 obtain ⟨M1,hM1⟩:∃ M1:Nat,M1=S1 / 64:=⟨_,rfl⟩;have hdiv:(S1:Int) / 64=(M1:Int):=by omega
 have hsum:(M1:Int)+1=(N:Int):=by omega
 have wM:=aa M1 (by omega);clear hM1;have wN:=aa N (by omega);have hmk:=fun w=>qP w N hNb;have HN:=hid hN;clear hN;go_wp2_with fail;rename_i K1 hK1;have HK1:=hid hK1;clear hK1;refine wp_region_noPanic ?_;refine aA (fun w':World=>w'.cell? ⟨bp,0,none⟩=some (.pointer (some ⟨p,0,none⟩))/\w'.cell? ⟨bt,0,none⟩=some (.string text)) 8 (by kernel_rfl) ?_;have hS:(fun w':World=>w'.cell? ⟨bp,0,none⟩=some (.pointer (some ⟨p,0,none⟩))/\w'.cell? ⟨bt,0,none⟩=some (.string text)) U.drew:=⟨qp,qt⟩;iterate 5 (refine tkn (v:=?_) rfl (by kernel_rfl) (fun _ _ _ h=>h) ⟨rfl,fun w hSw=>?_⟩ hS ?_;rotate_left;(focus ((try dsimp only at hSw);go_simp;(try with_reducible rfl)));(try simp only [N3,NZ,NY,Act.put,NX,N5,N6]))
 refine eO (i:=5) (j:=7) (by kernel_rfl) rfl rfl (fun K hK=>?ga) (fun K hK=>?gb)
 case' ga=>
  go_simp;have hS1:(fun w':World=>w'.cell? ⟨bp,0,none⟩=some (.pointer (some ⟨p,0,none⟩))/\w'.cell? ⟨bt,0,none⟩=some (.string text)) ((U.alloc (.cells (zs N) 148)).drew):=⟨aH qp _,aH qt _⟩;refine hK.out _ _ (.inr hS1) ?_;clear hK K;refine tk1 6 (v:=?_) rfl (by kernel_rfl) (fun _ _ _ h=>h) ⟨rfl,fun w hSw=>?_⟩ hS1 ?_;rotate_left;· ((try dsimp only at hSw);go_simp;(try with_reducible rfl))
  (try simp only [N3,NZ,NY,Act.put,NX,N5,N6])
  refine ag (i:=7) (by kernel_rfl) rfl (fun K hK=>?_);go_simp;refine hK.out _ _ (.inr ⟨aH (w:=U.alloc (.cells (zs N) 148)) hS1.1 _,aH (w:=U.alloc (.cells (zs N) 148)) hS1.2 _⟩) ?_;clear hK K;refine ag (i:=8) (by kernel_rfl) rfl (fun K hK=>?_);rw [Oa (by rfl)];refine wp_store_mid 159 (.tmp 5) (.tmp 28) rfl (U.heap.size+1) 0 (ij p text U.heap.size N).toArray rfl rfl ?hth Tryz.Kh (all_oneCell_toArray (jO p text U.heap.size N)) ?_
  case hth=>(have:=MT (U.alloc (.cells (zs N) 148));simpa using this)
  refine hK.out _ _ (.inl rfl) ?_;clear hK K;refine az (by kernel_rfl) ?_ _;refine NoPanic.normal ?_;simp only [N3,NZ,NY,Act.put];have fs:Fg [] U ((((U.alloc (.cells (zs N) 148)).alloc (.cells z28 159)).drew).setCells (U.heap.size+1) 0 (ij p text U.heap.size N).toArray.toList) (U.heap.size+1) p (U.heap.size) N 0 text [] (.slice none 0 0) (.slice none 0 0) (.slice none 0 0) mc0:=by
   refine CM ((Kp.alloc _ _ _).trans ((Kp.alloc _ _ _).trans (Kp.drew _ _))) (by omega) (by omega) (by omega) ?_ ?_ ?_ ?_ (fun e he=>by cases he)
   .have:=MT (U.alloc (.cells (zs N) 148));simpa using this
   .intro i;simp
   .simp;omega
   .exact fun i hi=>⟨by have:=dT U (zs N) 148 i _ (qj N i hi);rw [Oi] at this;exact aH this _,(lP (by have:=dT U (zs N) 148 i _ (qj N i hi);rwa [Oi] at this) (by simp) _)⟩
  generalize (((U.alloc (.cells (zs N) 148)).alloc (.cells z28 159)).drew).setCells (U.heap.size+1) 0 (ij p text U.heap.size N).toArray.toList=W at *;have hflo:w.heap.size<=U.heap.size+1:=by have:=hz.out;omega
  clear hS hS1;have hUz:Hid (U.heap.size=w.heap.size):=hz;obtain ⟨f,hfe⟩:∃ f,f=U.heap.size+1:=⟨_,rfl⟩;obtain ⟨sb,hsbe⟩:∃ sb,sb=U.heap.size:=⟨_,rfl⟩;rw [<-hfe,<-hsbe] at fs
 case' gb=>
  go_simp;have hS1:(fun w':World=>w'.cell? ⟨bp,0,none⟩=some (.pointer (some ⟨p,0,none⟩))/\w'.cell? ⟨bt,0,none⟩=some (.string text)) ((U.alloc (.cells z28 159)).drew):=⟨aH qp _,aH qt _⟩;refine hK.out _ _ (.inr hS1) ?_;clear hK K;refine ag (i:=5) (by kernel_rfl) rfl (fun K hK=>?_);go_simp;have hS2:(fun w':World=>w'.cell? ⟨bp,0,none⟩=some (.pointer (some ⟨p,0,none⟩))/\w'.cell? ⟨bt,0,none⟩=some (.string text)) (((U.alloc (.cells z28 159)).alloc (.cells (zs N) 148)).drew):=⟨aH (w:=U.alloc (.cells z28 159)) hS1.1 _,aH (w:=U.alloc (.cells z28 159)) hS1.2 _⟩;refine hK.out _ _ (.inr hS2) ?_;clear hK K;refine tk1 6 (v:=?_) rfl (by kernel_rfl) (fun _ _ _ h=>h) ⟨rfl,fun w hSw=>?_⟩ hS2 ?_;rotate_left;· ((try dsimp only at hSw);go_simp;(try with_reducible rfl))
  (try simp only [N3,NZ,NY,Act.put,NX,N5,N6])
  refine ag (i:=8) (by kernel_rfl) rfl (fun K hK=>?_);rw [Oa (by rfl)];refine wp_store_mid 159 (.tmp 5) (.tmp 28) rfl U.heap.size 0 (ij p text (U.heap.size+1) N).toArray rfl rfl ?hth Tryz.Kh (all_oneCell_toArray (jO p text (U.heap.size+1) N)) ?_
  case hth=>exact nH (MT U) _
  refine hK.out _ _ (.inl rfl) ?_;clear hK K;refine az (by kernel_rfl) ?_ _;refine NoPanic.normal ?_;simp only [N3,NZ,NY,Act.put];have hsB:(U.alloc (.cells z28 159)).heap.size=U.heap.size+1:=by simp
  have fs:Fg [] U ((((U.alloc (.cells z28 159)).alloc (.cells (zs N) 148)).drew).setCells U.heap.size 0 (ij p text (U.heap.size+1) N).toArray.toList) (U.heap.size) p (U.heap.size+1) N 0 text [] (.slice none 0 0) (.slice none 0 0) (.slice none 0 0) mc0:=by
   refine CM ((Kp.alloc _ _ _).trans ((Kp.alloc _ _ _).trans (Kp.drew _ _))) (by omega) (by omega) (by omega) ?_ ?_ ?_ ?_ (fun e he=>by cases he)
   .exact nH (MT U) _
   .intro i;simp
   .simp
   .exact fun i hi=>⟨by have:=dT (U.alloc (.cells z28 159)) (zs N) 148 i _ (qj N i hi);rw [Oi,hsB] at this;exact this,by show ((U.alloc (.cells z28 159)).alloc (.cells (zs N) 148)).frozen? _=false;have:=fun j=>(show ((U.alloc (.cells z28 159)).alloc (.cells (zs N) 148)).frozen? ⟨(U.alloc (.cells z28 159)).heap.size,j,none⟩=false by simp);rw [hsB] at this;exact this i⟩
  generalize (((U.alloc (.cells z28 159)).alloc (.cells (zs N) 148)).drew).setCells U.heap.size 0 (ij p text (U.heap.size+1) N).toArray.toList=W at *;have hflo:w.heap.size<=U.heap.size:=by have:=hz.out;omega
  clear hS hS1 hS2 hsB;have hUz:Hid (U.heap.size=w.heap.size):=hz;obtain ⟨f,hfe⟩:∃ f,f=U.heap.size:=⟨_,rfl⟩;obtain ⟨sb,hsbe⟩:∃ sb,sb=U.heap.size+1:=⟨_,rfl⟩;rw [<-hsbe,<-hfe] at fs
 all_goals
  rw [<-hfe] at hflo ⊢;clear hfe hsbe;have FS:=hid fs;clear fs hmk wN wM hsum hdiv;refine HK1.out _ _ ?_;clear HK1 K1;obtain ⟨G2,hG2⟩:∃ G2:Nat,(2:Int) * (G:Int)=(G2:Int):=⟨2 * G,by push_cast;rfl⟩;obtain ⟨mm,hm⟩:∃ mm:Nat,(2:Int)+(G2:Int)=(mm:Int):=⟨2+G2,by push_cast;rfl⟩;have wg:=aa G2 (by omega);have wm:=aa mm (by omega);have hm20:mm<=20:=by omega
  have HMM:Hid (2+2 * G=mm):=hid (by omega);have hsl:∀ V:World,(Instr.sliceAt 157 (.pointer (some ⟨f,8,none⟩)) none (some (.int .i64 (mm:Int))) none).run Tryz.prog V=.ok (.slice (some ⟨f,8,none⟩) mm 20) V:=fun V=>lz V f mm hm20;have BD0:Hid (Bd 0 [] W):=hid (HKEEP.out 0 [] w W H0.out (fun j hj=>(kq.trans FS.out.kp).block j hj (by simp)) (fun e he=>by cases he) (kq.trans FS.out.kp).os (kq.trans FS.out.kp).tape (kq.trans FS.out.kp).output);have HU:Hid (Cd U p g c n D cd/\U.cell? ⟨p,1,none⟩=some (.int .i64 bg)/\U.cell? ⟨p,2,none⟩=some (.int .i64 G)):=hid ⟨HCD.out.aj kq,(kq.cell (p:=⟨p,1,none⟩) HCD.out.hp (by simp)).trans P1.out,(kq.cell (p:=⟨p,2,none⟩) HCD.out.hp (by simp)).trans P2.out⟩;have QT:=hid (And.intro qp qt);clear qp qt;obtain ⟨M,hM⟩:∃ M,M=(text.size+1) * (n * (D+1)):=⟨_,rfl⟩;have HMN:Hid (0+M<=64 * N):=hid (by rw [hM,<-HQ.out.1,Oi];exact hN2.out);have HM:=hid hM;clear hM;refine (wpIn_wide (n:=3)).1 ?_
  gi_wp2
  gi_loopw [6] (fun v wr=>∃ (fr i:Nat) (Z:List (Nat×Obj)) (wb:World) (s:Mc) (pl:Nat) (u3 u4 u5:Value),v=.int .i64 fr/\fr<=text.size+1/\i<=bs.length/\Hid (Fg Z wb wr f p sb N pl text [] u3 u4 u5 s)/\Hid (s.left=[]/\s.ahead=[])/\Hid (wb.heap.size=w.heap.size)/\Hid (Cd wb p g c n D cd/\wb.cell? ⟨p,1,none⟩=some (.int .i64 bg)/\wb.cell? ⟨p,2,none⟩=some (.int .i64 G))/\Hid (wb.cell? ⟨bp,0,none⟩=some (.pointer (some ⟨p,0,none⟩))/\wb.cell? ⟨bt,0,none⟩=some (.string text))/\Hid (Bd i Z wr)/\Hid (ItsG cd n D text bg (bs.drop i) fr s)/\Hid (∀ e∈Z,w.heap.size<=e.1)) (fun _ wr=>JW wr sb 0 M)
  case atStart=>exact ⟨0,0,[],U,mc0,0,_,_,_,rfl,by omega,by omega,FS,hid ⟨rfl,rfl⟩,hUz,HU,QT,BD0,HI,hid (fun e he=>by cases he)⟩
  case round=>
   clear FS BD0 HU QT HI;obtain ⟨fr,i,Z,wb,s,pl,u3,u4,u5,rfl,hfr,hib,FS,HL,HB,HCW,HCE,HBD,HIT,HZL⟩:=hrel
   gi_wp2_with fail
   refine ⟨trivial,?_⟩;refine (callsIn_wide.2 (lA (fr:=fr) FS.out HL.out.1 HL.out.2 HCW.out.1 HCW.out.2.1 hbg (by rw [<-HQ.out.1];exact hn) (by rw [<-HQ.out.1];exact hN2.out) hNb htx hfr)).mono ?_;rintro e W1 ⟨s',pl',x3,x4,x5,rfl,fg,hl1,ha1,runs⟩;have FG:=hid fg;have RU:=hid runs;have HLA:=hid (And.intro hl1 ha1);have b0:=(fg.kp.cell (p:=⟨bp,0,none⟩) (World.block_lt_of_cell? _ _ HCE.out.1) (by simp)).trans HCE.out.1;have b2:=(fg.kp.cell (p:=⟨p,2,none⟩) HCW.out.1.hp (by simp)).trans HCW.out.2.2;have BD1:Hid (Bd i Z W1):=hid (HKEEP.out i Z _ W1 HBD.out (fun j hj=>(fg.kp.block j (by rw [HB.out];exact hj) (by simp)).trans (FS.out.kp.block j (by rw [HB.out];exact hj) (by simp)).symm) (fun e he=>(fg.fx e he).1) (fg.kp.os.trans FS.out.kp.os.symm) (fg.kp.tape.trans FS.out.kp.tape.symm) (fg.kp.output.trans FS.out.kp.output.symm));clear runs fg hl1 ha1;obtain ⟨fdv,hfdv⟩:∃ b,s'.fd=b:=⟨_,rfl⟩;rw [hfdv]
   have hit:=HIT.out
   cases fdv with
   | false=>
    have HE:Hid (i=bs.length):=hid (by
     by_cases q:i < bs.length
     .rw [Ox q] at hit;have:=(hit s' RU.out).1;rw [hfdv] at this
      cases this
     .omega)
    clear hit
    gi_wp2
    go_end0;exact ⟨⟨_,rfl⟩,.inl ⟨Z,by rw [<-HE.out];exact BD1.out⟩⟩
   | true=>
    by_cases q:i < bs.length
    case neg=>
     rw [Pq (by omega)] at hit;have:=hit s' RU.out;rw [hfdv] at this
     cases this
    rw [Ox q] at hit;obtain ⟨_,hbest,fr',hb1,hun,hle,hits⟩:=hit s' RU.out;have HUN:Hid (uns s'.sn 0 M < uns s.sn 0 M):=hid (by rw [HM.out];exact hun);clear hun;obtain ⟨fn,tmps,assign,body,hy,hR⟩:=HY.out W1 f 2 i bs[i] Z (Ob q) BD1.out (by rw [<-hbest];exact FG.out.eN) hflo (fun e he=>(FG.out.fx e he).2.1);rw [HMM.out] at hy;have HR:=hid hR;have HITS:=hid hits;have HB1:=hid (And.intro hbest hb1);clear hR hits hit hbest hb1
    gi_wp2
    refine HR.out.mono ?_;rintro e W2 ⟨S,Z2,kS,hS,hZ2,(⟨rfl,hB⟩ | ⟨rfl,hX⟩)⟩
    .have hS':∀ T∈S,T < wb.heap.size\/∃ o,(T,o)∈Z:=fun T hT=>by
      rcases hS T hT with r | r
      .exact .inl (by rw [HB.out];exact (HCV.out T r).1)
      .exact .inr r
     have fg2:=FG.out.He kS hS' hZ2;have nin:∀ x,x < w.heap.size->x∉CV->x∉S:=fun x hx hn m=>by
      rcases hS x m with r | ⟨o,r⟩
      .exact hn r
      .have:=HZL.out _ r;simp at this;omega
     have bk:∀ x,x < w.heap.size->x∉CV->(Jb W2 wb.heap.size).heap[x]? = wb.heap[x]?:=fun x hx hn=>
      (CX (Oc FG.out.kp.size kS.size) (by rw [HB.out];exact hx)).trans ((kS.block x (N8 (by rw [HB.out];exact hx) FG.out.kp.size) (nin x hx hn)).trans (FG.out.kp.block x (by rw [HB.out];exact hx) (by simp)))
     have hpl:p < w.heap.size:=by rw [<-HB.out];exact HCW.out.1.hp
     have hgl:g < w.heap.size:=by rw [<-HB.out];exact HCW.out.1.hg
     have hbpl:bp < w.heap.size:=by rw [<-HB.out];exact World.block_lt_of_cell? _ _ HCE.out.1
     have hbtl:bt < w.heap.size:=by rw [<-HB.out];exact World.block_lt_of_cell? _ _ HCE.out.2
     have bkp:=bk p hpl (fun m=>(HCV.out p m).2.1 rfl);have bkg:=bk g hgl (fun m=>(HCV.out g m).2.2.1 rfl);have bkt:=bk bt hbtl (fun m=>(HCV.out bt m).2.2.2.1 rfl);have bkb:=bk bp hbpl (fun m=>(HCV.out bp m).2.2.2.2 rfl);have HC2:Hid (Cd (Jb W2 wb.heap.size) p g c n D cd/\(Jb W2 wb.heap.size).cell? ⟨p,1,none⟩=some (.int .i64 bg)/\(Jb W2 wb.heap.size).cell? ⟨p,2,none⟩=some (.int .i64 G)):=hid ⟨HCW.out.1.blocks bkp bkg,(World.cell?_of_block bkp).trans HCW.out.2.1,(World.cell?_of_block bkp).trans HCW.out.2.2⟩;have HE2:Hid ((Jb W2 wb.heap.size).cell? ⟨bp,0,none⟩=some (.pointer (some ⟨p,0,none⟩))/\(Jb W2 wb.heap.size).cell? ⟨bt,0,none⟩=some (.string text)):=hid ⟨(World.cell?_of_block bkb).trans HCE.out.1,(World.cell?_of_block bkt).trans HCE.out.2⟩
     have HZ2:Hid (∀ e∈Z2,w.heap.size<=e.1):=hid (fun e he=>by
      rcases (hZ2 e he).2 with ⟨o,r⟩ | r
      .exact HZL.out (e.1,o) r
      .have:=FG.out.kp.size;rw [HB.out] at this
       omega)
     have c9:W2.cell? ⟨f,8+1,none⟩=some (.int .i64 (fr':Int)):=by
      have:=fg2.eN 1 _ rfl;rw [this]
      congr 2
      rw [HB1.out.1];exact HB1.out.2
     have c9':W2.cell? ⟨f,9,none⟩=some (.int .i64 (fr':Int)):=c9;have F2:=hid fg2;have HSZ:Hid ((Jb W2 wb.heap.size).heap.size=w.heap.size):=hid ((jQ (Oc FG.out.kp.size kS.size)).trans HB.out);have HBB:=hid hB;clear bk nin fg2 hS hS' hZ2 bkp bkg bkt bkb kS hB
     gi_wp2
     go_round
     case rel=>exact ⟨fr',i+1,Z2,_,s',pl',x3,x4,x5,rfl,hle,by omega,F2,HLA,HSZ,HC2,HE2,HBB,HITS,HZ2⟩
     case measure=>rw [F2.out.uns 0 M HMN.out,FS.out.uns 0 M HMN.out];exact HUN.out
    .gi_wp2
     refine bodyPost_ret (results_none rfl _ _ _) rfl ?_;exact ⟨⟨_,rfl⟩,.inr hX⟩
end Go.Proofs.YtiahkfoojjpaaaaGreatDoor
