/- What the claim needs of: VL. -/
import Derived.Test.YtiahkfoojjpaaaaGreatDoorW37
import Derived.Test.YtiahkfoojjpaaaaGreatDoorW36
import Derived.Test.YtiahkfoojjpaaaaGreatDoorW38
import Derived.Test.YtiahkfoojjpaaaaGreatDoorW39
import Derived.Test.YtiahkfoojjpaaaaGreatDoorW35
import Derived.Test.YtiahkfoojjpaaaaGreatDoorW30
set_option maxRecDepth 100000
set_option maxHeartbeats 16000000
set_option linter.unusedVariables false
set_option linter.unusedSimpArgs false
namespace Go.Proofs.YtiahkfoojjpaaaaGreatDoor
open Go.RowKit
def gi.A:gi->Adr
 | .num n=>.num n
 | .last=>.last
 | .pat p=>.pat p.Q p.txt
def rH (fs:List (Nat×Obj)) (v:Value) (H:List (Nat×Nat)):Prop:=
 ∃ A hc,v=.slice A H.length hc/\(H=[]\/∃ hb cells,A=some ⟨hb,0,none⟩/\(hb,Obj.cells cells 211 (0,0))∈fs/\cells.toList.take (H.length * 2)=nD H)
def PtnV (fs:List (Nat×Obj)) (v t:Value) (p:Ptn):Prop:=∃ pb g o1 o2,v=.pointer (some ⟨pb,0,none⟩)/\t=.string p.txt/\(pb,o1)∈fs/\(g,o2)∈fs/\Fi p.Q pb g o1 o2
def PatV (fs:List (Nat×Obj)) (cv:List Value):Option Ptn->Prop
 | none=>cv[11]? = some (.pointer none)/\cv[12]? = some (.string noB)
 | some p=>∃ v t,cv[11]? = some v/\cv[12]? = some t/\PtnV fs v t p
structure gy (fs:List (Nat×Obj)) (cv:List Value) (c:dz):Prop where
 c4:cv[4]? = some (.string c.label)
 c5:cv[5]? = some (.int .i64 c.goal)
 c6:cv[6]? = some (.string c.name)
 c7:cv[7]? = some (.int .i64 c.file)
 c8:cv[8]? = some (.int .i64 c.status)
 c9:cv[9]? = some (.string c.text.src)
 c10:cv[10]? = some (.string (ba c.text.plain))
 c11:PatV fs cv c.pat
 c13:cv[13]? = some (.string c.new.src)
 c14:cv[14]? = some (.string (ba c.new.plain))
 c15:∃ v,cv[15]? = some v/\rH fs v c.dm
 c16:cv[16]? = some (.bool c.all)
 c17:cv[17]? = some (.int .i64 c.number)
 c18:cv[18]? = some (.bool c.print)
 c19:cv[19]? = some (.string c.rL.src)
 c20:cv[20]? = some (.string (ba c.rL.plain))
 c21:cv[21]? = some (.string c.yto.src)
 c22:cv[22]? = some (.string (ba c.yto.plain))
structure uH (fs:List (Nat×Obj)) (cv:List Value) (c:dz):Prop where
 c0:∃ v,cv[0]? = some v/\Bc fs v (c.gQ.map gi.A)
 c1:cv[1]? = some (.int .i64 c.range)
 c2:cv[2]? = some (.bool c.neg)
 c3:cv[3]? = some (.int .u8 c.what)
 rest:gy fs cv c
structure jt (σ:Sst) (r:RdS):Prop where
 len:σ.cs.length=r.aI.length
 cs:∀ (i:Nat) (cv:List Value) (c:dz),σ.cs[i]? = some cv->r.aI[i]? = some c->uH σ.fs cv c
 nm:NmR σ r.names
 rg:σ.ranges=r.ranges
 bs:σ.bs=r.blocks
 ls:σ.ls=r.labels
 gs:σ.gs=r.wanted
section
variable {fs fs':List (Nat×Obj)} {cv cv':List Value} {c:dz}
theorem rH.mono {v:Value} {H:List (Nat×Nat)} (h:rH fs v H) (hf:∀ f∈fs,f∈fs'):rH fs' v H:=by
 obtain ⟨A,hc,e,h⟩:=h;refine ⟨A,hc,e,h.imp_right ?_⟩;rintro ⟨hb,cells,e1,h1,h2⟩;exact ⟨hb,cells,e1,hf _ h1,h2⟩
theorem PatV.mono {p:Option Ptn} (h:PatV fs cv p) (hf:∀ f∈fs,f∈fs'):PatV fs' cv p:=by
 cases p with
 | none=>exact h
 | some p=>
  obtain ⟨v,t,e1,e2,pb,g,o1,o2,e3,e4,h1,h2,h3⟩:=h;exact ⟨v,t,e1,e2,pb,g,o1,o2,e3,e4,hf _ h1,hf _ h2,h3⟩
theorem gy.mono (h:gy fs cv c) (hf:∀ f∈fs,f∈fs'):gy fs' cv c:=
 ⟨h.c4,h.c5,h.c6,h.c7,h.c8,h.c9,h.c10,h.c11.mono hf,h.c13,h.c14,h.c15.imp fun _ q=>⟨q.1,q.2.mono hf⟩,h.c16,h.c17,h.c18,h.c19,h.c20,h.c21,h.c22⟩
theorem AdrV.mono {A:Adr} {v:List Value} (h:AdrV fs A v) (hf:∀ f∈fs,f∈fs'):AdrV fs' A v:=by
 cases A with
 | num x=>exact h
 | last=>exact h
 | pat Q txt=>
  obtain ⟨pb,g,o1,o2,e,h1,h2,h3⟩:=h;exact ⟨pb,g,o1,o2,e,hf _ h1,hf _ h2,h3⟩
theorem Bc.mono {v:Value} {L:List Adr} (h:Bc fs v L) (hf:∀ f∈fs,f∈fs'):Bc fs' v L:=by
 rcases h with h | ⟨p,c,cells,e,h1,h2⟩
 .exact .inl h
 .refine .inr ⟨p,c,cells,e,hf _ h1,fun i A hA=>?_⟩;obtain ⟨va,q1,q2⟩:=h2 i A hA;exact ⟨va,q1.mono hf,q2⟩
theorem uH.mono (h:uH fs cv c) (hf:∀ f∈fs,f∈fs'):uH fs' cv c:=
 ⟨h.c0.imp fun _ q=>⟨q.1,q.2.mono hf⟩,h.c1,h.c2,h.c3,h.rest.mono hf⟩
theorem dr (hz:Cz cv) (L:List gi) (r:Nat) (n:Bool) (x:Nat):gy fs cv (dv L r n x):=by
 have q:∀ j,cv[4+j]? = (cv.drop 4)[j]?:=fun j=>hz.at_ j;unfold Cz at hz;refine ⟨?_,?_,?_,?_,?_,?_,?_,⟨?_,?_⟩,?_,?_,⟨.slice none 0 0,?_,none,0,rfl,.inl rfl⟩,?_,?_,?_,?_,?_,?_,?_⟩
 .exact (q 0).trans (by rw [hz];rfl)
 .exact (q 1).trans (by rw [hz];rfl)
 .exact (q 2).trans (by rw [hz];rfl)
 .exact (q 3).trans (by rw [hz];rfl)
 .exact (q 4).trans (by rw [hz];rfl)
 .exact (q 5).trans (by rw [hz];rfl)
 .exact (q 6).trans (by rw [hz];rfl)
 .exact (q 7).trans (by rw [hz];rfl)
 .exact (q 8).trans (by rw [hz];rfl)
 .exact (q 9).trans (by rw [hz];rfl)
 .exact (q 10).trans (by rw [hz];rfl)
 .exact (q 11).trans (by rw [hz];rfl)
 .exact (q 12).trans (by rw [hz];rfl)
 .exact (q 13).trans (by rw [hz];rfl)
 .exact (q 14).trans (by rw [hz];rfl)
 .exact (q 15).trans (by rw [hz];rfl)
 .exact (q 16).trans (by rw [hz];rfl)
 .exact (q 17).trans (by rw [hz];rfl)
 .exact (q 18).trans (by rw [hz];rfl)
end
theorem jt.mono {σ:Sst} {r:RdS} (h:jt σ r) {fs:List (Nat×Obj)} (hf:∀ f∈σ.fs,f∈fs):jt { σ with fs:=fs } r:=
 ⟨h.len,fun i cv c h1 h2=>(h.cs i cv c h1 h2).mono hf,⟨h.nm.ns,h.nm.nm⟩,h.rg,h.bs,h.ls,h.gs⟩
structure MP (σ:Sst) (r:RdS):Prop where
 len:σ.cs.length=r.aI.length
 nm:NmR σ r.names
 bs:σ.bs=r.blocks
 ls:σ.ls=r.labels
 gs:σ.gs=r.wanted
structure NP (σ σ':Sst):Prop where
 qt:σ'.quiet=σ.quiet
 cl:σ'.cs.length=σ.cs.length
 fx:∀ f∈σ.fs,f∈σ'.fs
theorem NP.GV {σ:Sst}:NP σ σ:=⟨rfl,rfl,fun _ h=>h⟩
def OperR (w0:World) (b cb:Nat) (src:ByteArray) (σ:Sst) (cv:List Value) (r:RdS) (q:Nat×RdS×dz) (w':World):Prop:=
 ∃ σ' cv',Sr w0 w' b src q.1 σ'/\Bl w' cb cv'/\Cv cv'/\Sr.Far w0 b σ' cb/\cv'.take 4=cv.take 4/\gy σ'.fs cv' q.2.2/\(jt σ r->jt σ' q.2.1)/\NP σ σ'
def ik (w0:World) (f b:Nat) (src:ByteArray) (k:Nat) (σ:Sst) (r:RdS) (R:OpE):Prop:=
 ∀ w cb cv,Sr w0 w b src k σ->Bl w cb cv->Cv cv->Cz cv->Sr.Far w0 b σ cb->Small σ 2000 ->
  Calls Tryz.prog f #[.pointer (some ⟨b,0,none⟩),.pointer (some ⟨cb,0,none⟩)] w (OpO R w0 (OperR w0 b cb src σ cv r))
section
variable {w0 w:World} {b k:Nat} {src:ByteArray} {σ:Sst}
theorem Le {n e pl:Nat} {x:ByteArray} (hw:isW src (blk src k)=true) (h:wdN src (blk src (blk src k)) n (blk src (blk src k))=some e) (hx:src.extract (blk src (blk src k)) e=x) (hpl:pl+x.size=e) (he:e<=2000) (_:σ.cs.length<=2000):Fe w0 95 b src k e σ (NR x pl):=by
 intro w cb cv hs hb hl hz hf hsl;have hgs:=hsl.gs;have hne:cb≠b:=fun e=>hf.bk 0 (by rw [e];rfl);obtain ⟨A4,c4',ev4,_,_⟩:=aU hs.r.o4;obtain ⟨A,c',ev,_,_⟩:=aU hs.r.o11;have H:=hid h;have HX:=hid hx;clear h hx;obtain ⟨i0,hi,hz0,hz1,hz2⟩:=info_parts Tryz.CF;have HI:=hid (And.intro hi (And.intro hz0 (And.intro hz1 hz2)));clear hi hz0 hz1 hz2;go_enter Tryz.func95,Tryz.ntmps95
 go_wp2_with fail;refine (dJ hs.cur).mono ?_;rintro r w1 ⟨rfl,h1,m1⟩;go_wp2_with fail;refine (dZ h1 hw).mono ?_;rintro r w2 ⟨rfl,h2,m2⟩;go_wp2_with fail;refine (Bg h2 H.out).mono ?_;rintro r w3 ⟨rfl,h3,m3⟩;rw [HX.out];have m13:=m1.trans (m2.trans m3);have s1:=hs.move m13 h3;have b1:=hb.aj m13.kp (by simpa using hne);have e4:=b1.at_ 4 _ (Ob (show 4 < cv.length by rw [hl.len];omega));have f4:=b1.free 4;clear hs hb m1 h1 m2 h2 m3 h3 m13 H HX;go_upto_region 3 with fail
 have k2:Kp [cb] w3 (w3.setCell ⟨cb,4,none⟩ (.string x)):=Kp.setCell _ _ (by simp);have s2:=s1.other k2 (fun y hy=>by simp at hy;rw [hy];exact hf);have b2:=b1.set 4 (.string x) (by rw [hl.len];omega);have l2:Cv (cv.set 4 (.string x)):=hl.set 4 rfl;obtain ⟨w4,hw4⟩:∃ w4,w4=w3.setCell ⟨cb,4,none⟩ (.string x):=⟨_,rfl⟩;rw [<-hw4] at s2 b2 ⊢;clear hw4 k2 s1 b1 e4 f4 w3;refine aA (fun w':World=>w'.cell? ⟨b,11,none⟩=some σ.vg/\w'.cell? ⟨b,4,none⟩=some (.slice A4 σ.cs.length c4')/\w'.cell? ⟨b,1,none⟩=some (.int .i64 (e:Int))/\w'.cell? ⟨cb,4,none⟩=some (.string x)) 27 (by kernel_rfl) ?_;have s3:=s2.aj (Kp.drew [] w4);have b3:=b2.aj (Kp.drew [] w4) (by simp);obtain ⟨w5,hw5⟩:∃ w5,w5=w4.drew:=⟨_,rfl⟩;rw [<-hw5] at s3 b3 ⊢;clear hw5 s2 b2;have hS:(fun w':World=>w'.cell? ⟨b,11,none⟩=some σ.vg/\w'.cell? ⟨b,4,none⟩=some (.slice A4 σ.cs.length c4')/\w'.cell? ⟨b,1,none⟩=some (.int .i64 (e:Int))/\w'.cell? ⟨cb,4,none⟩=some (.string x)) w5:=⟨s3.c.c11,by rw [<-ev4];exact s3.c.c4,s3.cur.c1,b3.at_ 4 (.string x) (Oj (by rw [hl.len];omega))⟩
 have hsub:(e:Int) - (x.size:Int)=(pl:Int):=by omega
 have wp:=aa pl (by omega);iterate 23 (refine tkn (v:=?_) rfl (by kernel_rfl) (fun _ _ _ h=>h) ⟨rfl,fun w hSw=>?_⟩ hS ?_;rotate_left;(focus ((try dsimp only at hSw);go_simp;(try with_reducible rfl)));(try simp only [N3,NZ,NY,Act.put,NX,N5,N6]))
 have ka:=Kp.alloc [] w5 (.cells #[.int .i64 (σ.cs.length:Int),.int .i64 (pl:Int)] 164);have s7:=s3.aj ka;have b7:=b3.aj ka (by simp);have hS7:(fun w':World=>w'.cell? ⟨b,11,none⟩=some σ.vg/\w'.cell? ⟨b,4,none⟩=some (.slice A4 σ.cs.length c4')/\w'.cell? ⟨b,1,none⟩=some (.int .i64 (e:Int))/\w'.cell? ⟨cb,4,none⟩=some (.string x)) (w5.alloc (.cells #[.int .i64 (σ.cs.length:Int),.int .i64 (pl:Int)] 164)):=⟨s7.c.c11,by rw [<-ev4];exact s7.c.c4,s7.cur.c1,b7.at_ 4 (.string x) (Oj (by rw [hl.len];omega))⟩;have BN:=Bl.alloc w5 [.int .i64 (σ.cs.length:Int),.int .i64 (pl:Int)] 164;refine ag (i:=23) (by kernel_rfl) rfl (fun K hK=>?_);go_simp;refine hK.out _ _ (.inr hS7) ?_;clear hK K;refine ag (i:=24) (by kernel_rfl) rfl (fun K hK=>?_);refine iI (by rfl) (.tmp 17) (.tmp 36) 125 (by rfl) w0.heap.size 164 i0 _ 2 16 Tryz.underlying125 HI.out.1 HI.out.2.1 HI.out.2.2.1 HI.out.2.2.2 rfl (by decide) σ.vg σ.gs.length (σ.gs.flatMap fun p:Nat×Nat=>[Value.int .i64 (p.1:Int),.int .i64 (p.2:Int)]) (by rw [ev];rfl) s7.r.o11 ⟨w5.heap.size,0,none⟩ 1 1 [.int .i64 (σ.cs.length:Int),.int .i64 (pl:Int)] (by rfl) rfl (fun j u hu=>by rw [Addr.add_mid,Oi];exact BN.at_ j u hu) (fun u hu=>by simp at hu;rcases hu with rfl | rfl <;> rfl) (by unfold maxLen;omega) (by omega) s7.r.kp.size (by omega) ?_
 intro g cap w8 ho8 hg8 hor8;have blt:=s7.cur.lt;have hb2:w8.heap[b]? = (w5.alloc (.cells #[.int .i64 (σ.cs.length:Int),.int .i64 (pl:Int)] 164)).heap[b]?:=hg8.block b blt (fun e=>by have:=s7.r.bk.ne 0 7 b rfl (by first | exact e | exact e.symm);omega);have hb3:w8.heap[cb]? = (w5.alloc (.cells #[.int .i64 (σ.cs.length:Int),.int .i64 (pl:Int)] 164)).heap[cb]?:=hg8.block cb b7.lt (fun e=>hf.bk 7 (by first | exact e | exact e.symm));have hS8:(fun w':World=>w'.cell? ⟨b,11,none⟩=some σ.vg/\w'.cell? ⟨b,4,none⟩=some (.slice A4 σ.cs.length c4')/\w'.cell? ⟨b,1,none⟩=some (.int .i64 (e:Int))/\w'.cell? ⟨cb,4,none⟩=some (.string x)) w8:=⟨(World.cell?_of_block hb2).trans hS7.1,(World.cell?_of_block hb2).trans hS7.2.1,(World.cell?_of_block hb2).trans hS7.2.2.1,(World.cell?_of_block hb3).trans hS7.2.2.2⟩;have c11:=hS8.1;have f11:w8.frozen? ⟨b,11,none⟩=false:=(World.frozen?_of_block hb2).trans (s7.cur.free 11)
 have s9:=s3.pushGoal (x:=(σ.cs.length,pl)) ka ho8 hg8 hor8;have b8:Bl w8 cb (cv.set 4 (.string x)):=b7.aj (aQ (S:=σ.vg.ownBlock.toList) hg8 (fun p hp=>by rw [hp];simp)) (fun hm=>hf.bk 7 (show σ.vg.ownBlock=some cb by simpa using hm));have b9:=b8.aj (Kp.setCell (S:=[b]) (p:=⟨b,11,none⟩) w8 (.slice (some ⟨g,0,none⟩) (σ.gs.length+1) cap) (by simp)) (by simpa using hne);have gfar:cb≠g:=fun e=>by
  rcases hor8 with q | q
  .exact hf.bk 7 (show σ.vg.ownBlock=some cb by rw [e];exact q)
  .have:=b7.lt;omega
 refine hK.out _ _ (.inr hS8) ?_;clear hK K;have S9:=hid s9;have B9:=hid b9;clear s9 b9 ho8 hg8 hor8 s3 b3 b7 b8 ka BN hb2 hb3 hS hS7 s7;refine ag (i:=25) (by kernel_rfl) rfl (fun K hK=>?_);go_simp;refine hK.out _ _ (.inr hS8) ?_;clear hK K;refine ag (i:=26) (by kernel_rfl) rfl (fun K hK=>?_);go_simp;refine hK.out _ _ (.inr hS8) ?_;clear hK K;refine ag (i:=27) (by kernel_rfl) rfl (fun K hK=>?_);go_simp;refine hK.out _ _ (.inl rfl) ?_;clear hK K;refine az (by kernel_rfl) ?_ _;have far':Sr.Far w0 b { σ with vg:=.slice (some ⟨g,0,none⟩) (σ.gs.length+1) cap,gs:=σ.gs++[(σ.cs.length,pl)] } cb:=by
  refine ⟨hf.lo,fun i=>?_,hf.fx⟩;rw [im b σ ⟨g,0,none⟩ (σ.gs.length+1) cap (σ.gs++[(σ.cs.length,pl)])];show (if i=7 then some g else srB b σ i)≠_;split
  .intro e;injection e with e;exact gfar e.symm
  .exact hf.bk i
 go_wp2_with fail;go_end0;exact ⟨rfl,_,S9.out,_,B9.out,l2,far',⟨_,rfl⟩,rfl⟩
theorem Lf {e pl:Nat} (hw:isW src (blk src k)=false) (he:e=blk src k) (hpe:pl=e) (hz2:e<=2000) (_:σ.cs.length<=2000):Fe w0 95 b src k e σ (NR ⟨#[]⟩ pl):=by
 intro w cb cv hs hb hl hz hf hsl;have hgs:=hsl.gs;have hne:cb≠b:=fun e=>hf.bk 0 (by rw [e];rfl);obtain ⟨A4,c4',ev4,_,_⟩:=aU hs.r.o4;obtain ⟨A,c',ev,_,_⟩:=aU hs.r.o11;obtain ⟨i0,hi,hz0,hz1,hz2⟩:=info_parts Tryz.CF;have HI:=hid (And.intro hi (And.intro hz0 (And.intro hz1 hz2)));clear hi hz0 hz1 hz2;have HE:=hid he;have HPE:=hid hpe;clear he hpe;go_enter Tryz.func95,Tryz.ntmps95
 go_wp2_with fail;refine (dJ hs.cur).mono ?_;rintro r w1 ⟨rfl,h1,m1⟩;go_wp2_with fail;refine (dZ h1 hw).mono ?_;rintro r w3 ⟨rfl,h3,m3⟩;obtain ⟨x,hxe⟩:∃ x,x=(⟨#[]⟩:ByteArray):=⟨_,rfl⟩;have z4:cv[4]? = some (.string x):=by rw [hxe,show 4=4+0 from rfl,hz.at_,hz];rfl
 have hset:cv.set 4 (.string x)=cv:=by
  apply List.ext_getElem?;intro j;by_cases h4:j=4
  .subst h4;rw [Oj (by rw [hl.len];omega),z4]
  .rw [Ol (Ne.symm h4)]
 have hpl:pl+x.size=e:=by rw [hxe];exact HPE.out
 rw [<-HE.out] at h3;have m13:=m1.trans m3;have s2:=hs.move m13 h3;have b2:Bl w3 cb (cv.set 4 (.string x)):=by rw [hset];exact hb.aj m13.kp (by simpa using hne)
 have HSET:=hid (And.intro hset hxe);clear hs hb m1 h1 m3 h3 m13 hset hxe z4 hw;go_upto_region 3 with fail
 have l2:Cv (cv.set 4 (.string x)):=hl.set 4 rfl;obtain ⟨w4,hw4⟩:∃ w4,w4=w3:=⟨_,rfl⟩;rw [<-hw4] at s2 b2 ⊢;clear hw4 w3;refine aA (fun w':World=>w'.cell? ⟨b,11,none⟩=some σ.vg/\w'.cell? ⟨b,4,none⟩=some (.slice A4 σ.cs.length c4')/\w'.cell? ⟨b,1,none⟩=some (.int .i64 (e:Int))/\w'.cell? ⟨cb,4,none⟩=some (.string x)) 27 (by kernel_rfl) ?_;have s3:=s2.aj (Kp.drew [] w4);have b3:=b2.aj (Kp.drew [] w4) (by simp);obtain ⟨w5,hw5⟩:∃ w5,w5=w4.drew:=⟨_,rfl⟩;rw [<-hw5] at s3 b3 ⊢;clear hw5 s2 b2;have hS:(fun w':World=>w'.cell? ⟨b,11,none⟩=some σ.vg/\w'.cell? ⟨b,4,none⟩=some (.slice A4 σ.cs.length c4')/\w'.cell? ⟨b,1,none⟩=some (.int .i64 (e:Int))/\w'.cell? ⟨cb,4,none⟩=some (.string x)) w5:=⟨s3.c.c11,by rw [<-ev4];exact s3.c.c4,s3.cur.c1,b3.at_ 4 (.string x) (Oj (by rw [hl.len];omega))⟩;have hsub:(e:Int) - (x.size:Int)=(pl:Int):=by omega
 have wp:=aa pl (by omega);iterate 23 (refine tkn (v:=?_) rfl (by kernel_rfl) (fun _ _ _ h=>h) ⟨rfl,fun w hSw=>?_⟩ hS ?_;rotate_left;(focus ((try dsimp only at hSw);go_simp;(try with_reducible rfl)));(try simp only [N3,NZ,NY,Act.put,NX,N5,N6]))
 have ka:=Kp.alloc [] w5 (.cells #[.int .i64 (σ.cs.length:Int),.int .i64 (pl:Int)] 164);have s7:=s3.aj ka;have b7:=b3.aj ka (by simp);have hS7:(fun w':World=>w'.cell? ⟨b,11,none⟩=some σ.vg/\w'.cell? ⟨b,4,none⟩=some (.slice A4 σ.cs.length c4')/\w'.cell? ⟨b,1,none⟩=some (.int .i64 (e:Int))/\w'.cell? ⟨cb,4,none⟩=some (.string x)) (w5.alloc (.cells #[.int .i64 (σ.cs.length:Int),.int .i64 (pl:Int)] 164)):=⟨s7.c.c11,by rw [<-ev4];exact s7.c.c4,s7.cur.c1,b7.at_ 4 (.string x) (Oj (by rw [hl.len];omega))⟩;have BN:=Bl.alloc w5 [.int .i64 (σ.cs.length:Int),.int .i64 (pl:Int)] 164;refine ag (i:=23) (by kernel_rfl) rfl (fun K hK=>?_);go_simp;refine hK.out _ _ (.inr hS7) ?_;clear hK K;refine ag (i:=24) (by kernel_rfl) rfl (fun K hK=>?_);refine iI (by rfl) (.tmp 17) (.tmp 36) 125 (by rfl) w0.heap.size 164 i0 _ 2 16 Tryz.underlying125 HI.out.1 HI.out.2.1 HI.out.2.2.1 HI.out.2.2.2 rfl (by decide) σ.vg σ.gs.length (σ.gs.flatMap fun p:Nat×Nat=>[Value.int .i64 (p.1:Int),.int .i64 (p.2:Int)]) (by rw [ev];rfl) s7.r.o11 ⟨w5.heap.size,0,none⟩ 1 1 [.int .i64 (σ.cs.length:Int),.int .i64 (pl:Int)] (by rfl) rfl (fun j u hu=>by rw [Addr.add_mid,Oi];exact BN.at_ j u hu) (fun u hu=>by simp at hu;rcases hu with rfl | rfl <;> rfl) (by unfold maxLen;omega) (by omega) s7.r.kp.size (by omega) ?_
 intro g cap w8 ho8 hg8 hor8;have blt:=s7.cur.lt;have hb2:w8.heap[b]? = (w5.alloc (.cells #[.int .i64 (σ.cs.length:Int),.int .i64 (pl:Int)] 164)).heap[b]?:=hg8.block b blt (fun e=>by have:=s7.r.bk.ne 0 7 b rfl (by first | exact e | exact e.symm);omega);have hb3:w8.heap[cb]? = (w5.alloc (.cells #[.int .i64 (σ.cs.length:Int),.int .i64 (pl:Int)] 164)).heap[cb]?:=hg8.block cb b7.lt (fun e=>hf.bk 7 (by first | exact e | exact e.symm));have hS8:(fun w':World=>w'.cell? ⟨b,11,none⟩=some σ.vg/\w'.cell? ⟨b,4,none⟩=some (.slice A4 σ.cs.length c4')/\w'.cell? ⟨b,1,none⟩=some (.int .i64 (e:Int))/\w'.cell? ⟨cb,4,none⟩=some (.string x)) w8:=⟨(World.cell?_of_block hb2).trans hS7.1,(World.cell?_of_block hb2).trans hS7.2.1,(World.cell?_of_block hb2).trans hS7.2.2.1,(World.cell?_of_block hb3).trans hS7.2.2.2⟩;have c11:=hS8.1;have f11:w8.frozen? ⟨b,11,none⟩=false:=(World.frozen?_of_block hb2).trans (s7.cur.free 11)
 have s9:=s3.pushGoal (x:=(σ.cs.length,pl)) ka ho8 hg8 hor8;have b8:Bl w8 cb (cv.set 4 (.string x)):=b7.aj (aQ (S:=σ.vg.ownBlock.toList) hg8 (fun p hp=>by rw [hp];simp)) (fun hm=>hf.bk 7 (show σ.vg.ownBlock=some cb by simpa using hm));have b9:=b8.aj (Kp.setCell (S:=[b]) (p:=⟨b,11,none⟩) w8 (.slice (some ⟨g,0,none⟩) (σ.gs.length+1) cap) (by simp)) (by simpa using hne);have gfar:cb≠g:=fun e=>by
  rcases hor8 with q | q
  .exact hf.bk 7 (show σ.vg.ownBlock=some cb by rw [e];exact q)
  .have:=b7.lt;omega
 refine hK.out _ _ (.inr hS8) ?_;clear hK K;have S9:=hid s9;have B9:=hid b9;clear s9 b9 ho8 hg8 hor8 s3 b3 b7 b8 ka BN hb2 hb3 hS hS7 s7;refine ag (i:=25) (by kernel_rfl) rfl (fun K hK=>?_);go_simp;refine hK.out _ _ (.inr hS8) ?_;clear hK K;refine ag (i:=26) (by kernel_rfl) rfl (fun K hK=>?_);go_simp;refine hK.out _ _ (.inr hS8) ?_;clear hK K;refine ag (i:=27) (by kernel_rfl) rfl (fun K hK=>?_);go_simp;refine hK.out _ _ (.inl rfl) ?_;clear hK K;refine az (by kernel_rfl) ?_ _;have far':Sr.Far w0 b { σ with vg:=.slice (some ⟨g,0,none⟩) (σ.gs.length+1) cap,gs:=σ.gs++[(σ.cs.length,pl)] } cb:=by
  refine ⟨hf.lo,fun i=>?_,hf.fx⟩;rw [im b σ ⟨g,0,none⟩ (σ.gs.length+1) cap (σ.gs++[(σ.cs.length,pl)])];show (if i=7 then some g else srB b σ i)≠_;split
  .intro e;injection e with e;exact gfar e.symm
  .exact hf.bk i
 go_wp2_with fail;go_end0;exact ⟨rfl,_,S9.out,_,B9.out,l2,far',⟨_,rfl⟩,by rw [HSET.out.2]⟩
theorem xF {r:RdS} {L:List gi} {rn:Nat} {nt:Bool}:ik w0 98 b src k σ r (operE src k r (dv L rn nt 121)):=by
 intro w cb cv hs hb hl hz hf _;have hlt:=hs.cur.lt;have hne:cb≠b:=fun e=>hf.bk 0 (by rw [e];rfl);have HF:=hid hf;have HZ:=hid hz;clear hz;obtain ⟨R,hR⟩:∃ R,R=operE src k r (dv L rn nt 121):=⟨_,rfl⟩;rw [<-hR];simp only [operE,dv,Nat.reduceEqDiff,if_false,false_or,if_true] at hR
 cases h47:saw src k 47
 case false=>
  rw [h47,N7 (by simp)] at hR;have HRE:=hid hR;clear hR;go_enter Tryz.func98,Tryz.ntmps98
  go_wp2_with fail;refine (CP 47 hs.e h47).mono ?_;rintro q w1 ⟨rfl,m1⟩;go_wp2_with fail;refine ⟨rfl,?_⟩;rw [HRE.out];exact ⟨rfl,hs.qY m1⟩
 case true=>
 rw [h47,Oa rfl] at hR;have H0:=hid h47;clear h47
 cases h1:pZ src (src.size+1) (k+1) [] with
 | error pl=>
  rw [h1] at hR;have HRE:=hid hR;have H1:=hid h1;clear hR h1;go_enter Tryz.func98,Tryz.ntmps98
  go_wp2_with fail;refine (uc 47 hs.cur H0.out).mono ?_;rintro q w1 ⟨rfl,c1,m1⟩;have BF:=pK (hs.e.move m1 c1);rw [H1.out] at BF;have HBF:=hid BF;clear BF;go_wp2_with fail;refine HBF.out.mono ?_;rintro q w2 ⟨rfl,m2⟩;go_wp2_with fail;refine ⟨rfl,?_⟩;rw [HRE.out];exact ⟨rfl,hs.qY (m1.trans m2)⟩
 | ok p=>
 obtain ⟨e1,L1⟩:=p;rw [h1] at hR;have H1:=hid h1;have HRE:=hid hR;have hle1:L1.length<=2000:=by
  have q:=tW h1;have:=hs.cur.small;have q1:=q.2.1;have q2:=q.2.2;simp at q2;omega
 clear hR h1;go_enter Tryz.func98,Tryz.ntmps98
 go_wp2_with fail;refine (uc 47 hs.cur H0.out).mono ?_;rintro q w1 ⟨rfl,c1,m1⟩;have BF:=pK (hs.e.move m1 c1);rw [H1.out] at BF;have HBF:=hid BF;clear BF;go_wp2_with fail;refine HBF.out.mono ?_;rintro q w2 ⟨rfl,c2,m2⟩;have c2:Cur w2 b src e1:=c2;have m12:=m1.trans m2;have b2:=hb.aj m12.kp (by simpa using hne);have hS2:=hid (hs.move m12 c2);have hx:∀ j,j < 23->∃ v,cv[j]? = some v:=fun j hj=>⟨_,Ob (by rw [hl.len];exact hj)⟩
 obtain ⟨v19,g19⟩:=hx 19 (by omega);obtain ⟨v20,g20⟩:=hx 20 (by omega);have d19:=b2.at_ 19 _ g19;have d20:=b2.at_ 20 _ g20;have f19:=b2.free 19;have f20:=b2.free 20;have hsz:(ba L1).size=L1.length:=by rw [aw]
 dsimp only;obtain ⟨r1,hr1⟩:∃ r1,r1=src.extract (k+1) (e1 - 1):=⟨_,rfl⟩;rw [<-hr1];have R1:=hid hr1;clear hr1;go_upto_region 2 with fail
 have l19:19 < cv.length:=by rw [hl.len];omega
 have l20:20 < (cv.set 19 (.string r1)).length:=by rw [(hl.set 19 rfl).len];omega
 have b3:=(b2.set 19 (.string r1) l19).set 20 (.string (ba L1)) l20;have k3:Kp [cb] w2 ((w2.setCell ⟨cb,19,none⟩ (.string r1)).setCell ⟨cb,20,none⟩ (.string (ba L1))):=(Kp.setCell _ _ (by simp)).trans (Kp.setCell _ _ (by simp));have S3:=hid (hS2.out.other k3 (fun y hy=>by simp at hy;rw [hy];exact HF.out));have HL3:=hid ((hl.set 19 (v:=.string r1) rfl).set 20 (v:=.string (ba L1)) rfl);obtain ⟨w3,hw3⟩:∃ w3,w3=(w2.setCell ⟨cb,19,none⟩ (.string r1)).setCell ⟨cb,20,none⟩ (.string (ba L1)):=⟨_,rfl⟩;rw [<-hw3] at b3 S3 ⊢;clear hw3 k3 d19 d20 f19 f20 b2 hS2 c1 c2 m12 m1 m2 hs hb;obtain ⟨cv3,hcv3⟩:∃ cv3,cv3=(cv.set 19 (Value.string r1)).set 20 (.string (ba L1)):=⟨_,rfl⟩;have q20:cv3[20]? = some (.string (ba L1)):=by rw [hcv3,Oj l20]
 rw [<-hcv3] at b3 HL3;have C3:=hid hcv3;clear hcv3 hx g19 g20;have d20:=b3.at_ 20 _ q20;have BT:=Jr (M:=L1.length) S3.out.e hle1;have hRE:=HRE.out;clear HRE
 cases h2:toE src L1.length (src.size+1) e1 [] with
 | error pl=>
  rw [h2] at BT hRE;have HBT:=hid BT;have HRE:=hid hRE;clear BT hRE h2;go_wp2_with fail;refine HBT.out.mono ?_;rintro q w4 ⟨rfl,m4⟩;go_wp2_with fail;refine ⟨rfl,?_⟩;rw [HRE.out];exact ⟨rfl,S3.out.qY m4⟩
 | ok p=>
 obtain ⟨e2,L2⟩:=p;rw [h2] at BT hRE;have HBT:=hid BT;have HRE:=hid hRE;clear BT hRE h2;go_wp2_with fail;refine HBT.out.mono ?_;rintro q w4 ⟨rfl,c4,m4⟩;have c4:Cur w4 b src e2:=c4;have b4:=b3.aj m4.kp (by simpa using hne);have S4:=hid (S3.out.move m4 c4);have hx:∀ j,j < 23->∃ v,cv3[j]? = some v:=fun j hj=>⟨_,Ob (by rw [HL3.out.len];exact hj)⟩
 obtain ⟨v21,g21⟩:=hx 21 (by omega);obtain ⟨v22,g22⟩:=hx 22 (by omega);have d21:=b4.at_ 21 _ g21;have d22:=b4.at_ 22 _ g22;have f21:=b4.free 21;have f22:=b4.free 22;dsimp only;obtain ⟨r2,hr2⟩:∃ r2,r2=src.extract e1 (e2 - 1):=⟨_,rfl⟩;rw [<-hr2];have R2:=hid hr2;clear hr2;have l21:21 < cv3.length:=by rw [HL3.out.len];omega
 have l22:22 < (cv3.set 21 (.string r2)).length:=by rw [(HL3.out.set 21 rfl).len];omega
 have B5:=hid ((b4.set 21 (.string r2) l21).set 22 (.string (ba L2)) l22);have k5:Kp [cb] w4 ((w4.setCell ⟨cb,21,none⟩ (.string r2)).setCell ⟨cb,22,none⟩ (.string (ba L2))):=(Kp.setCell _ _ (by simp)).trans (Kp.setCell _ _ (by simp));have S5:=hid (S4.out.other k5 (fun y hy=>by simp at hy;rw [hy];exact HF.out));clear k5;go_wp2_with fail;refine bodyPost_ret (results_none rfl _ _ _) rfl ?_;rw [HRE.out];refine ⟨rfl,σ,_,S5.out,B5.out,(HL3.out.set 21 (v:=.string r2) rfl).set 22 (v:=.string (ba L2)) rfl,HF.out,?_,?_,fun h=>h,NP.GV⟩
 .rw [C3.out];obtain ⟨x0,x1,x2,x3,x4,x5,x6,x7,x8,x9,x10,x11,x12,x13,x14,x15,x16,x17,x18,x19,x20,x21,x22,rfl⟩:=dU hl.len
  rfl
 .have rz:=dr (fs:=σ.fs) HZ.out L rn nt 121;rw [C3.out,<-R1.out,<-R2.out];obtain ⟨x0,x1,x2,x3,x4,x5,x6,x7,x8,x9,x10,x11,x12,x13,x14,x15,x16,x17,x18,x19,x20,x21,x22,rfl⟩:=dU hl.len;exact ⟨rz.c4,rz.c5,rz.c6,rz.c7,rz.c8,rz.c9,rz.c10,rz.c11,rz.c13,rz.c14,rz.c15,rz.c16,rz.c17,rz.c18,rfl,rfl,rfl,rfl⟩
end
end Go.Proofs.YtiahkfoojjpaaaaGreatDoor
