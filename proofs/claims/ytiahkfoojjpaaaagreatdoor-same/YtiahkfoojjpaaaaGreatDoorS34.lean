import Derived.Test.YtiahkfoojjpaaaaGreatDoorS31
import Derived.Test.YtiahkfoojjpaaaaGreatDoorS32
import Derived.Test.YtiahkfoojjpaaaaGreatDoorS33
set_option maxRecDepth 100000
set_option maxHeartbeats 16000000
set_option linter.all false
namespace Go.Proofs.YtiahkfoojjpaaaaGreatDoor
open Go.RowKit
def eE.A:eE->Adr
 | .num n=>.num n
 | .last=>.last
 | .pat p=>.pat p.Q p.txt
def tT(fs:List (Nat×Obj))(v:Value)(H:List (Nat×Nat)):Prop:=
 ∃A hc,v=.slice A H.length hc/\(H=[]\/∃hb cells,A=some ⟨hb,0,none⟩/\(hb,Obj.cells cells 211 (0,0))∈fs/\cells.toList.take (H.length*2)=oG H)
def PtnV(fs:List (Nat×Obj))(v t:Value)(p:Ptn):Prop:=∃pb g o1 o2,v=.pointer (some ⟨pb,0,none⟩)/\t=.string p.txt/\(pb,o1)∈fs/\(g,o2)∈fs/\Hc p.Q pb g o1 o2
def PatV(fs:List (Nat×Obj))(cv:List Value):Option Ptn->Prop
 | none=>cv[11]? = some (.pointer none)/\cv[12]? = some (.string noB)
 | some p=>∃v t,cv[11]? = some v/\cv[12]? = some t/\PtnV fs v t p
structure gM(fs:List (Nat×Obj))(cv:List Value)(c:aH):Prop where
 c4:cv[4]? = some (.string c.label)
 c5:cv[5]? = some (.int .i64 c.goal)
 c6:cv[6]? = some (.string c.name)
 c7:cv[7]? = some (.int .i64 c.file)
 c8:cv[8]? = some (.int .i64 c.status)
 c9:cv[9]? = some (.string c.text.src)
 c10:cv[10]? = some (.string (ba c.text.plain))
 c11:PatV fs cv c.pat
 c13:cv[13]? = some (.string c.new.src)
 c14:cv[14]? = some (.string (ba c.new.plain))
 c15:∃v,cv[15]? = some v/\tT fs v c.dr
 c16:cv[16]? = some (.bool c.all)
 c17:cv[17]? = some (.int .i64 c.number)
 c18:cv[18]? = some (.bool c.print)
 c19:cv[19]? = some (.string c.jM.src)
 c20:cv[20]? = some (.string (ba c.jM.plain))
 c21:cv[21]? = some (.string c.yto.src)
 c22:cv[22]? = some (.string (ba c.yto.plain))
structure rq(fs:List (Nat×Obj))(cv:List Value)(c:aH):Prop where
 c0:∃v,cv[0]? = some v/\CD fs v (c.fw.map eE.A)
 c1:cv[1]? = some (.int .i64 c.range)
 c2:cv[2]? = some (.bool c.neg)
 c3:cv[3]? = some (.int .u8 c.what)
 rest:gM fs cv c
structure jL(σ:Sst)(r:RdS):Prop where
 len:σ.cs.length=r.aD.length
 cs:∀(i:Nat) (cv:List Value) (c:aH),σ.cs[i]? = some cv->r.aD[i]? = some c->rq σ.fs cv c
 nm:NmR σ r.names
 rg:σ.ranges=r.ranges
 bs:σ.bs=r.blocks
 ls:σ.ls=r.labels
 gs:σ.gs=r.wanted
section
variable {fs fs':List (Nat×Obj)}{cv cv':List Value}{c:aH}
theorem tT.mono{v:Value}{H:List (Nat×Nat)}(h:tT fs v H)(hf:∀f∈fs,f∈fs'):tT fs' v H:=by
 obtain⟨A,hc,e,h⟩:=h;refine⟨A,hc,e,h.imp_right ?_⟩;rintro⟨hb,cells,e1,h1,h2⟩;exact⟨hb,cells,e1,hf _ h1,h2⟩
theorem PatV.mono{p:Option Ptn}(h:PatV fs cv p)(hf:∀f∈fs,f∈fs'):PatV fs' cv p:=by
 cases p with
 | none=>exact h
 | some p=>
  obtain⟨v,t,e1,e2,pb,g,o1,o2,e3,e4,h1,h2,h3⟩:=h;exact⟨v,t,e1,e2,pb,g,o1,o2,e3,e4,hf _ h1,hf _ h2,h3⟩
theorem gM.mono(h:gM fs cv c)(hf:∀f∈fs,f∈fs'):gM fs' cv c:=
 ⟨h.c4,h.c5,h.c6,h.c7,h.c8,h.c9,h.c10,h.c11.mono hf,h.c13,h.c14,h.c15.imp fun _ q=>⟨q.1,q.2.mono hf⟩,h.c16,h.c17,h.c18,h.c19,h.c20,h.c21,h.c22⟩
theorem Qp.mono{A:Adr}{v:List Value}(h:Qp fs A v)(hf:∀f∈fs,f∈fs'):Qp fs' A v:=by
 cases A with
 | num x=>exact h
 | last=>exact h
 | pat Q txt=>
  obtain⟨pb,g,o1,o2,e,h1,h2,h3⟩:=h;exact⟨pb,g,o1,o2,e,hf _ h1,hf _ h2,h3⟩
theorem CD.mono{v:Value}{L:List Adr}(h:CD fs v L)(hf:∀f∈fs,f∈fs'):CD fs' v L:=by
 rcases h with h|⟨p,c,cells,e,h1,h2⟩
 .exact .inl h
 .refine .inr ⟨p,c,cells,e,hf _ h1,fun i A hA=>?_⟩;obtain⟨va,q1,q2⟩:=h2 i A hA;exact⟨va,q1.mono hf,q2⟩
theorem rq.mono(h:rq fs cv c)(hf:∀f∈fs,f∈fs'):rq fs' cv c:=
 ⟨h.c0.imp fun _ q=>⟨q.1,q.2.mono hf⟩,h.c1,h.c2,h.c3,h.rest.mono hf⟩
theorem dv(hz:Cz cv)(L:List eE)(r:Nat)(n:Bool)(x:Nat):gM fs cv (dH L r n x):=by
 have q:∀j,cv[4+j]? = (cv.drop 4)[j]?:=fun j=>hz.at_ j;unfold Cz at hz;refine⟨?_,?_,?_,?_,?_,?_,?_,⟨?_,?_⟩,?_,?_,⟨.slice none 0 0,?_,none,0,rfl,.inl rfl⟩,?_,?_,?_,?_,?_,?_,?_⟩
 .exact(q 0).trans (by rw[hz];rfl)
 .exact(q 1).trans (by rw[hz];rfl)
 .exact(q 2).trans (by rw[hz];rfl)
 .exact(q 3).trans (by rw[hz];rfl)
 .exact(q 4).trans (by rw[hz];rfl)
 .exact(q 5).trans (by rw[hz];rfl)
 .exact(q 6).trans (by rw[hz];rfl)
 .exact(q 7).trans (by rw[hz];rfl)
 .exact(q 8).trans (by rw[hz];rfl)
 .exact(q 9).trans (by rw[hz];rfl)
 .exact(q 10).trans (by rw[hz];rfl)
 .exact(q 11).trans (by rw[hz];rfl)
 .exact(q 12).trans (by rw[hz];rfl)
 .exact(q 13).trans (by rw[hz];rfl)
 .exact(q 14).trans (by rw[hz];rfl)
 .exact(q 15).trans (by rw[hz];rfl)
 .exact(q 16).trans (by rw[hz];rfl)
 .exact(q 17).trans (by rw[hz];rfl)
 .exact(q 18).trans (by rw[hz];rfl)
end
theorem jL.mono{σ:Sst}{r:RdS}(h:jL σ r){fs:List (Nat×Obj)}(hf:∀f∈σ.fs,f∈fs):jL { σ with fs:=fs} r:=
 ⟨h.len,fun i cv c h1 h2=>(h.cs i cv c h1 h2).mono hf,⟨h.nm.ns,h.nm.nm⟩,h.rg,h.bs,h.ls,h.gs⟩
structure Pm(σ:Sst)(r:RdS):Prop where
 len:σ.cs.length=r.aD.length
 nm:NmR σ r.names
 bs:σ.bs=r.blocks
 ls:σ.ls=r.labels
 gs:σ.gs=r.wanted
structure Ql(σ σ':Sst):Prop where
 qt:σ'.quiet=σ.quiet
 cl:σ'.cs.length=σ.cs.length
 fx:∀f∈σ.fs,f∈σ'.fs
theorem Ql.IE{σ:Sst}:Ql σ σ:=⟨rfl,rfl,fun _ h=>h⟩
def OperR(w0:World)(b cb:Nat)(src:ByteArray)(σ:Sst)(cv:List Value)(r:RdS)(q:Nat×RdS×aH)(w':World):Prop:=
 ∃σ' cv',Sr w0 w' b src q.1 σ'/\Bl w' cb cv'/\Cv cv'/\Sr.Far w0 b σ' cb/\cv'.take 4=cv.take 4/\gM σ'.fs cv' q.2.2/\(jL σ r->jL σ' q.2.1)/\Ql σ σ'
def iI(w0:World)(f b:Nat)(src:ByteArray)(k:Nat)(σ:Sst)(r:RdS)(R:OpE):Prop:=
 ∀w cb cv,Sr w0 w b src k σ->Bl w cb cv->Cv cv->Cz cv->Sr.Far w0 b σ cb->Small σ 2000 ->
  Calls Tryz.prog f #[.pointer (some ⟨b,0,none⟩),.pointer (some ⟨cb,0,none⟩)] w (OpO R w0 (OperR w0 b cb src σ cv r))
section
variable {w0 w:World}{b k:Nat}{src:ByteArray}{σ:Sst}
theorem Jo{n e pl:Nat}{x:ByteArray}(hd:(isW src (blk src k)=true/\wdN src (blk src (blk src k)) n (blk src (blk src k))=some e/\src.extract (blk src (blk src k)) e=x)\/(isW src (blk src k)=false/\e=blk src k/\x=⟨#[]⟩))(hpl:pl+x.size=e)(he:e<=2000)(hcs:σ.cs.length<=2000):Ek w0 95 b src k e σ (LM x pl):=by
 intro w cb cv hs hb hl hz hf hsl;have hgs:=hsl.gs;have hne:cb≠b:=fun e=>hf.bk 0 (by rw[e];rfl);obtain⟨A4,c4',ev4,_,_⟩:=aZ hs.r.o4;obtain⟨A,c',ev,_,_⟩:=aZ hs.r.o11;obtain⟨i0,hi,hz0,hz1,hz2⟩:=info_parts Tryz.NZ;have HI:=hid (And.intro hi (And.intro hz0 (And.intro hz1 hz2)));clear hi hz0 hz1 hz2;rcases hd with⟨hw,h,hx⟩|⟨hw,he2,hxe⟩
 case' inl=>
  have H:=hid h;have HX:=hid hx;clear h hx;go_enter Tryz.func95,Tryz.ntmps95
  go_wp2_with fail;refine(dS hs.cur).mono ?_;rintro r w1 ⟨rfl,h1,m1⟩;go_wp2_with fail;refine(eO h1 hw).mono ?_;rintro r w2 ⟨rfl,h2,m2⟩;go_wp2_with fail;refine(CF h2 H.out).mono ?_;rintro r w3 ⟨rfl,h3,m3⟩;rw[HX.out];have m13:=m1.trans (m2.trans m3);have s1:=hs.move m13 h3;have b1:=hb.aj m13.kp (by simpa using hne);have e4:=b1.at_ 4 _ (QA (show 4<cv.length by rw[hl.len];omega));have f4:=b1.free 4;clear hs hb m1 h1 m2 h2 m3 h3 m13 H HX;go_upto_region 3 with fail
  have k2:Kp [cb] w3 (w3.setCell ⟨cb,4,none⟩ (.string x)):=Kp.setCell _ _ (by simp);have s2:=s1.other k2 (fun y hy=>by simp at hy;rw[hy];exact hf);have b2:=b1.set 4 (.string x) (by rw[hl.len];omega);have l2:Cv (cv.set 4 (.string x)):=hl.set 4 rfl;obtain⟨w4,hw4⟩:∃w4,w4=w3.setCell ⟨cb,4,none⟩ (.string x):=⟨_,rfl⟩;rw[<-hw4] at s2 b2 ⊢;clear hw4 k2 s1 b1 e4 f4 w3
 case' inr=>
  have HE:=hid he2;clear he2;go_enter Tryz.func95,Tryz.ntmps95
  go_wp2_with fail;refine(dS hs.cur).mono ?_;rintro r w1 ⟨rfl,h1,m1⟩;go_wp2_with fail;refine(eO h1 hw).mono ?_;rintro r w3 ⟨rfl,h3,m3⟩;have z4:cv[4]? = some (.string x):=by rw[hxe,show 4=4+0 from rfl,hz.at_,hz];rfl
  have hset:cv.set 4 (.string x)=cv:=by
   apply Ss;intro j;by_cases h4:j=4
   .subst h4;rw[QI (by rw[hl.len];omega),z4]
   .rw[QL (Ne.symm h4)]
  rw[<-HE.out] at h3;have m13:=m1.trans m3;have s2:=hs.move m13 h3;have b2:Bl w3 cb (cv.set 4 (.string x)):=by rw[hset];exact hb.aj m13.kp (by simpa using hne)
  clear hs hb m1 h1 m3 h3 m13 hset hxe z4 hw;go_upto_region 3 with fail
  have l2:Cv (cv.set 4 (.string x)):=hl.set 4 rfl;obtain⟨w4,hw4⟩:∃w4,w4=w3:=⟨_,rfl⟩;rw[<-hw4] at s2 b2 ⊢;clear hw4 w3
 all_goals
  refine az (fun w':World=>w'.cell? ⟨b,11,none⟩=some σ.vg/\w'.cell? ⟨b,4,none⟩=some (.slice A4 σ.cs.length c4')/\w'.cell? ⟨b,1,none⟩=some (.int .i64 (e:Int))/\w'.cell? ⟨cb,4,none⟩=some (.string x)) 27 (by kernel_rfl) ?_;have s3:=s2.aj (Kp.drew [] w4);have b3:=b2.aj (Kp.drew [] w4) (by simp);obtain⟨w5,hw5⟩:∃w5,w5=w4.drew:=⟨_,rfl⟩;rw[<-hw5] at s3 b3 ⊢;clear hw5 s2 b2;have hS:(fun w':World=>w'.cell? ⟨b,11,none⟩=some σ.vg/\w'.cell? ⟨b,4,none⟩=some (.slice A4 σ.cs.length c4')/\w'.cell? ⟨b,1,none⟩=some (.int .i64 (e:Int))/\w'.cell? ⟨cb,4,none⟩=some (.string x)) w5:=⟨s3.c.c11,by rw[<-ev4];exact s3.c.c4,s3.cur.c1,b3.at_ 4 (.string x) (QI (by rw[hl.len];omega))⟩;have hsub:(e:Int)-(x.size:Int)=(pl:Int):=by omega
  have wp:=aa pl (by omega);iterate 23(refine tkn (v:=?_) rfl (by kernel_rfl) (fun _ _ _ h=>h) ⟨rfl,fun w hSw=>?_⟩ hS ?_;rotate_left;(focus((try dsimp only at hSw);go_simp;(try with_reducible rfl)));(try simp only[Qt,Qs,Qr,Act.put,Qq,Qu,Qv]))
  have ka:=Kp.alloc [] w5 (.cells #[.int .i64 (σ.cs.length:Int),.int .i64 (pl:Int)] 164);have s7:=s3.aj ka;have b7:=b3.aj ka (by simp);have hS7:(fun w':World=>w'.cell? ⟨b,11,none⟩=some σ.vg/\w'.cell? ⟨b,4,none⟩=some (.slice A4 σ.cs.length c4')/\w'.cell? ⟨b,1,none⟩=some (.int .i64 (e:Int))/\w'.cell? ⟨cb,4,none⟩=some (.string x)) (w5.alloc (.cells #[.int .i64 (σ.cs.length:Int),.int .i64 (pl:Int)] 164)):=⟨s7.c.c11,by rw[<-ev4];exact s7.c.c4,s7.cur.c1,b7.at_ 4 (.string x) (QI (by rw[hl.len];omega))⟩;have BN:=Bl.alloc w5 [.int .i64 (σ.cs.length:Int),.int .i64 (pl:Int)] 164;refine ai (i:=23) (by kernel_rfl) rfl (fun K hK=>?_);go_simp;refine hK.out _ _ (.inr hS7) ?_;clear hK K;refine ai (i:=24) (by kernel_rfl) rfl (fun K hK=>?_);refine jR (by rfl) (.tmp 17) (.tmp 36) 125 (by rfl) w0.heap.size 164 i0 _ 2 16 Tryz.underlying125 HI.out.1 HI.out.2.1 HI.out.2.2.1 HI.out.2.2.2 rfl (by decide) σ.vg σ.gs.length (σ.gs.flatMap fun p:Nat×Nat=>[Value.int .i64 (p.1:Int),.int .i64 (p.2:Int)]) (by rw[ev];rfl) s7.r.o11 ⟨w5.heap.size,0,none⟩ 1 1 [.int .i64 (σ.cs.length:Int),.int .i64 (pl:Int)] (by rfl) rfl (fun j u hu=>by rw[Addr.add_mid,QH];exact BN.at_ j u hu) (fun u hu=>by simp at hu;rcases hu with rfl|rfl<;>rfl) (by unfold maxLen;omega) (by omega) s7.r.kp.size (by omega) ?_
  intro g cap w8 ho8 hg8 hor8;have blt:=s7.cur.lt;have hb2:w8.heap[b]? = (w5.alloc (.cells #[.int .i64 (σ.cs.length:Int),.int .i64 (pl:Int)] 164)).heap[b]?:=hg8.block b blt (fun e=>by have:=s7.r.bk.ne 0 7 b rfl (by first|exact e|exact e.symm);omega);have hb3:w8.heap[cb]? = (w5.alloc (.cells #[.int .i64 (σ.cs.length:Int),.int .i64 (pl:Int)] 164)).heap[cb]?:=hg8.block cb b7.lt (fun e=>hf.bk 7 (by first|exact e|exact e.symm));have hS8:(fun w':World=>w'.cell? ⟨b,11,none⟩=some σ.vg/\w'.cell? ⟨b,4,none⟩=some (.slice A4 σ.cs.length c4')/\w'.cell? ⟨b,1,none⟩=some (.int .i64 (e:Int))/\w'.cell? ⟨cb,4,none⟩=some (.string x)) w8:=⟨(World.cell?_of_block hb2).trans hS7.1,(World.cell?_of_block hb2).trans hS7.2.1,(World.cell?_of_block hb2).trans hS7.2.2.1,(World.cell?_of_block hb3).trans hS7.2.2.2⟩;have c11:=hS8.1;have f11:w8.frozen? ⟨b,11,none⟩=false:=(World.frozen?_of_block hb2).trans (s7.cur.free 11)
  have s9:=s3.pushGoal (x:=(σ.cs.length,pl)) ka ho8 hg8 hor8;have b8:Bl w8 cb (cv.set 4 (.string x)):=b7.aj (aX (S:=σ.vg.ownBlock.toList) hg8 (fun p hp=>by rw[hp];simp)) (fun hm=>hf.bk 7 (show σ.vg.ownBlock=some cb by simpa using hm));have b9:=b8.aj (Kp.setCell (S:=[b]) (p:=⟨b,11,none⟩) w8 (.slice (some ⟨g,0,none⟩) (σ.gs.length+1) cap) (by simp)) (by simpa using hne);have gfar:cb≠g:=fun e=>by
   rcases hor8 with q|q
   .exact hf.bk 7 (show σ.vg.ownBlock=some cb by rw[e];exact q)
   .have:=b7.lt;omega
  refine hK.out _ _ (.inr hS8) ?_;clear hK K;have S9:=hid s9;have B9:=hid b9;clear s9 b9 ho8 hg8 hor8 s3 b3 b7 b8 ka BN hb2 hb3 hS hS7 s7;refine ai (i:=25) (by kernel_rfl) rfl (fun K hK=>?_);go_simp;refine hK.out _ _ (.inr hS8) ?_;clear hK K;refine ai (i:=26) (by kernel_rfl) rfl (fun K hK=>?_);go_simp;refine hK.out _ _ (.inr hS8) ?_;clear hK K;refine ai (i:=27) (by kernel_rfl) rfl (fun K hK=>?_);go_simp;refine hK.out _ _ (.inl rfl) ?_;clear hK K;refine ax (by kernel_rfl) ?_ _;have far':Sr.Far w0 b { σ with vg:=.slice (some ⟨g,0,none⟩) (σ.gs.length+1) cap,gs:=σ.gs++[(σ.cs.length,pl)]} cb:=by
   refine⟨hf.lo,fun i=>?_,hf.fx⟩;rw[nZ b σ ⟨g,0,none⟩ (σ.gs.length+1) cap (σ.gs++[(σ.cs.length,pl)])];show(if i=7 then some g else srB b σ i)≠_;split
   .intro e;injection e with e;exact gfar e.symm
   .exact hf.bk i
  go_wp2_with fail;go_end0;exact⟨rfl,_,S9.out,_,B9.out,l2,far',⟨_,rfl⟩,rfl⟩
theorem Nn{n e pl:Nat}{x:ByteArray}(hw:isW src (blk src k)=true)(h:wdN src (blk src (blk src k)) n (blk src (blk src k))=some e)(hx:src.extract (blk src (blk src k)) e=x)(hpl:pl+x.size=e)(he:e<=2000)(hcs:σ.cs.length<=2000):Ek w0 95 b src k e σ (LM x pl):=Jo (.inl ⟨hw,h,hx⟩) hpl he hcs
theorem Np{e pl:Nat}(hw:isW src (blk src k)=false)(he:e=blk src k)(hpe:pl=e)(hz2:e<=2000)(hcs:σ.cs.length<=2000):Ek w0 95 b src k e σ (LM ⟨#[]⟩ pl):=Jo (n:=0) (.inr ⟨hw,he,rfl⟩) hpe hz2 hcs
theorem yJ{r:RdS}{L:List eE}{rn:Nat}{nt:Bool}:iI w0 98 b src k σ r (aG src k r (dH L rn nt 121)):=by
 intro w cb cv hs hb hl hz hf _;have hlt:=hs.cur.lt;have hne:cb≠b:=fun e=>hf.bk 0 (by rw[e];rfl);have HF:=hid hf;have HZ:=hid hz;clear hz;obtain⟨R,hR⟩:∃R,R=aG src k r (dH L rn nt 121):=⟨_,rfl⟩;rw[<-hR];simp only[aG,dH,Nat.reduceEqDiff,if_false,false_or,if_true] at hR
 cases h47:saw src k 47
 case false=>
  rw[h47,Qw (by simp)] at hR;have HRE:=hid hR;clear hR;go_enter Tryz.func98,Tryz.ntmps98
  go_wp2_with fail;refine(DZ 47 hs.e h47).mono ?_;rintro q w1 ⟨rfl,m1⟩;go_wp2_with fail;refine⟨rfl,?_⟩;rw[HRE.out];exact⟨rfl,hs.tw m1⟩
 case true=>
 rw[h47,QB rfl] at hR;have H0:=hid h47;clear h47
 cases h1:gG src (src.size+1) (k+1) [] with
 | error pl=>
  rw[h1] at hR;have HRE:=hid hR;have H1:=hid h1;clear hR h1;go_enter Tryz.func98,Tryz.ntmps98
  go_wp2_with fail;refine(xj 47 hs.cur H0.out).mono ?_;rintro q w1 ⟨rfl,c1,m1⟩;have BF:=qJ (hs.e.move m1 c1);rw[H1.out] at BF;have HBF:=hid BF;clear BF;go_wp2_with fail;refine HBF.out.mono ?_;rintro q w2 ⟨rfl,m2⟩;go_wp2_with fail;refine⟨rfl,?_⟩;rw[HRE.out];exact⟨rfl,hs.tw (m1.trans m2)⟩
 | ok p=>
 obtain⟨e1,L1⟩:=p;rw[h1] at hR;have H1:=hid h1;have HRE:=hid hR;have hle1:L1.length<=2000:=by
  have q:=fF h1;have:=hs.cur.small;have q1:=q.2.1;have q2:=q.2.2;simp at q2;omega
 clear hR h1;go_enter Tryz.func98,Tryz.ntmps98
 go_wp2_with fail;refine(xj 47 hs.cur H0.out).mono ?_;rintro q w1 ⟨rfl,c1,m1⟩;have BF:=qJ (hs.e.move m1 c1);rw[H1.out] at BF;have HBF:=hid BF;clear BF;go_wp2_with fail;refine HBF.out.mono ?_;rintro q w2 ⟨rfl,c2,m2⟩;have c2:Cur w2 b src e1:=c2;have m12:=m1.trans m2;have b2:=hb.aj m12.kp (by simpa using hne);have hS2:=hid (hs.move m12 c2);have hx:∀j,j<23->∃v,cv[j]? = some v:=fun j hj=>⟨_,QA (by rw[hl.len];exact hj)⟩
 obtain⟨v19,g19⟩:=hx 19 (by omega);obtain⟨v20,g20⟩:=hx 20 (by omega);have d19:=b2.at_ 19 _ g19;have d20:=b2.at_ 20 _ g20;have f19:=b2.free 19;have f20:=b2.free 20;have hsz:(ba L1).size=L1.length:=by rw[ay]
 dsimp only;obtain⟨r1,hr1⟩:∃r1,r1=src.extract (k+1) (e1-1):=⟨_,rfl⟩;rw[<-hr1];have R1:=hid hr1;clear hr1;go_upto_region 2 with fail
 have l19:19<cv.length:=by rw[hl.len];omega
 have l20:20<(cv.set 19 (.string r1)).length:=by rw[(hl.set 19 rfl).len];omega
 have b3:=(b2.set 19 (.string r1) l19).set 20 (.string (ba L1)) l20;have k3:Kp [cb] w2 ((w2.setCell ⟨cb,19,none⟩ (.string r1)).setCell ⟨cb,20,none⟩ (.string (ba L1))):=(Kp.setCell _ _ (by simp)).trans (Kp.setCell _ _ (by simp));have S3:=hid (hS2.out.other k3 (fun y hy=>by simp at hy;rw[hy];exact HF.out));have HL3:=hid ((hl.set 19 (v:=.string r1) rfl).set 20 (v:=.string (ba L1)) rfl);obtain⟨w3,hw3⟩:∃w3,w3=(w2.setCell ⟨cb,19,none⟩ (.string r1)).setCell ⟨cb,20,none⟩ (.string (ba L1)):=⟨_,rfl⟩;rw[<-hw3] at b3 S3 ⊢;clear hw3 k3 d19 d20 f19 f20 b2 hS2 c1 c2 m12 m1 m2 hs hb;obtain⟨cv3,hcv3⟩:∃cv3,cv3=(cv.set 19 (Value.string r1)).set 20 (.string (ba L1)):=⟨_,rfl⟩;have q20:cv3[20]? = some (.string (ba L1)):=by rw[hcv3,QI l20]
 rw[<-hcv3] at b3 HL3;have C3:=hid hcv3;clear hcv3 hx g19 g20;have d20:=b3.at_ 20 _ q20;have BT:=KY (M:=L1.length) S3.out.e hle1;have hRE:=HRE.out;clear HRE
 cases h2:toE src L1.length (src.size+1) e1 [] with
 | error pl=>
  rw[h2] at BT hRE;have HBT:=hid BT;have HRE:=hid hRE;clear BT hRE h2;go_wp2_with fail;refine HBT.out.mono ?_;rintro q w4 ⟨rfl,m4⟩;go_wp2_with fail;refine⟨rfl,?_⟩;rw[HRE.out];exact⟨rfl,S3.out.tw m4⟩
 | ok p=>
 obtain⟨e2,L2⟩:=p;rw[h2] at BT hRE;have HBT:=hid BT;have HRE:=hid hRE;clear BT hRE h2;go_wp2_with fail;refine HBT.out.mono ?_;rintro q w4 ⟨rfl,c4,m4⟩;have c4:Cur w4 b src e2:=c4;have b4:=b3.aj m4.kp (by simpa using hne);have S4:=hid (S3.out.move m4 c4);have hx:∀j,j<23->∃v,cv3[j]? = some v:=fun j hj=>⟨_,QA (by rw[HL3.out.len];exact hj)⟩
 obtain⟨v21,g21⟩:=hx 21 (by omega);obtain⟨v22,g22⟩:=hx 22 (by omega);have d21:=b4.at_ 21 _ g21;have d22:=b4.at_ 22 _ g22;have f21:=b4.free 21;have f22:=b4.free 22;dsimp only;obtain⟨r2,hr2⟩:∃r2,r2=src.extract e1 (e2-1):=⟨_,rfl⟩;rw[<-hr2];have R2:=hid hr2;clear hr2;have l21:21<cv3.length:=by rw[HL3.out.len];omega
 have l22:22<(cv3.set 21 (.string r2)).length:=by rw[(HL3.out.set 21 rfl).len];omega
 have B5:=hid ((b4.set 21 (.string r2) l21).set 22 (.string (ba L2)) l22);have k5:Kp [cb] w4 ((w4.setCell ⟨cb,21,none⟩ (.string r2)).setCell ⟨cb,22,none⟩ (.string (ba L2))):=(Kp.setCell _ _ (by simp)).trans (Kp.setCell _ _ (by simp));have S5:=hid (S4.out.other k5 (fun y hy=>by simp at hy;rw[hy];exact HF.out));clear k5;go_wp2_with fail;refine bodyPost_ret (results_none rfl _ _ _) rfl ?_;rw[HRE.out];refine⟨rfl,σ,_,S5.out,B5.out,(HL3.out.set 21 (v:=.string r2) rfl).set 22 (v:=.string (ba L2)) rfl,HF.out,?_,?_,fun h=>h,Ql.IE⟩
 .rw[C3.out];obtain⟨x0,x1,x2,x3,x4,x5,x6,x7,x8,x9,x10,x11,x12,x13,x14,x15,x16,x17,x18,x19,x20,x21,x22,rfl⟩:=eD hl.len
  rfl
 .have rz:=dv (fs:=σ.fs) HZ.out L rn nt 121;rw[C3.out,<-R1.out,<-R2.out];obtain⟨x0,x1,x2,x3,x4,x5,x6,x7,x8,x9,x10,x11,x12,x13,x14,x15,x16,x17,x18,x19,x20,x21,x22,rfl⟩:=eD hl.len;exact⟨rz.c4,rz.c5,rz.c6,rz.c7,rz.c8,rz.c9,rz.c10,rz.c11,rz.c13,rz.c14,rz.c15,rz.c16,rz.c17,rz.c18,rfl,rfl,rfl,rfl⟩
end
section
variable {fs:List (Nat×Obj)}{cv cv':List Value}{c c2:aH}
theorem DS(hl:Cv cv)(h6:cv[6]? = some (.string c.name))(h7:cv[7]? = some (.int .i64 c.file))(h16:cv[16]? = some (.bool c.all))(h17:cv[17]? = some (.int .i64 c.number))(h18:cv[18]? = some (.bool c.print)):FlC cv c=cv:=by
 obtain⟨x0,x1,x2,x3,x4,x5,x6,x7,x8,x9,x10,x11,x12,x13,x14,x15,x16,x17,x18,x19,x20,x21,x22,rfl⟩:=eD hl.len;have e6:x6=_:=Option.some.inj h6;have e7:x7=_:=Option.some.inj h7;have e16:x16=_:=Option.some.inj h16;have e17:x17=_:=Option.some.inj h17;have e18:x18=_:=Option.some.inj h18;subst e6 e7 e16 e17 e18
 rfl
theorem PatV.same{p:Option Ptn}(h:PatV fs cv p)(h1:cv'[11]? = cv[11]?)(h2:cv'[12]? = cv[12]?):PatV fs cv' p:=by
 cases p with
 | none=>exact⟨h1.trans h.1,h2.trans h.2⟩
 | some p=>
  obtain⟨v,t,e1,e2,h⟩:=h;exact⟨v,t,h1.trans e1,h2.trans e2,h⟩
theorem gM.flc(h:gM fs cv c)(hl:Cv cv)(hc:c2={ c with name:=c2.name,file:=c2.file,all:=c2.all,number:=c2.number,print:=c2.print}):gM fs (FlC cv c2) c2:=by
 have l1:c2.label=c.label:=(congrArg aH.label hc).trans rfl;have l2:c2.goal=c.goal:=(congrArg aH.goal hc).trans rfl;have l3:c2.status=c.status:=(congrArg aH.status hc).trans rfl;have l4:c2.text=c.text:=(congrArg aH.text hc).trans rfl;have l5:c2.pat=c.pat:=(congrArg aH.pat hc).trans rfl;have l6:c2.new=c.new:=(congrArg aH.new hc).trans rfl;have l7:c2.dr=c.dr:=(congrArg aH.dr hc).trans rfl;have l8:c2.jM=c.jM:=(congrArg aH.jM hc).trans rfl;have l9:c2.yto=c.yto:=(congrArg aH.yto hc).trans rfl;clear hc;obtain⟨x0,x1,x2,x3,x4,x5,x6,x7,x8,x9,x10,x11,x12,x13,x14,x15,x16,x17,x18,x19,x20,x21,x22,rfl⟩:=eD hl.len;refine⟨?_,?_,rfl,rfl,?_,?_,?_,?_,?_,?_,?_,rfl,rfl,rfl,?_,?_,?_,?_⟩
 .rw[l1];exact h.c4
 .rw[l2];exact h.c5
 .rw[l3];exact h.c8
 .rw[l4];exact h.c9
 .rw[l4];exact h.c10
 .rw[l5];exact h.c11.same rfl rfl
 .rw[l6];exact h.c13
 .rw[l6];exact h.c14
 .rw[l7];exact h.c15
 .rw[l8];exact h.c19
 .rw[l8];exact h.c20
 .rw[l9];exact h.c21
 .rw[l9];exact h.c22
theorem rq.goal(h:rq fs cv c)(n:Nat):rq fs (cv.set 5 (.int .i64 n)) { c with goal:=n}:=by
 have l5:5<cv.length:=by
  have:=h.rest.c5;rw[List.getElem?_eq_some_iff] at this;exact this.1
 have q:∀j,j≠5->(cv.set 5 (.int .i64 n))[j]? = cv[j]?:=fun j hj=>QL (Ne.symm hj);obtain⟨v0,h0,h0'⟩:=h.c0;obtain⟨v15,h15,h15'⟩:=h.rest.c15;refine⟨⟨v0,(q 0 (by omega)).trans h0,h0'⟩,(q 1 (by omega)).trans h.c1,(q 2 (by omega)).trans h.c2,(q 3 (by omega)).trans h.c3,?_⟩;refine⟨(q 4 (by omega)).trans h.rest.c4,QI l5,(q 6 (by omega)).trans h.rest.c6,(q 7 (by omega)).trans h.rest.c7,(q 8 (by omega)).trans h.rest.c8,(q 9 (by omega)).trans h.rest.c9,(q 10 (by omega)).trans h.rest.c10,h.rest.c11.same (q 11 (by omega)) (q 12 (by omega)),(q 13 (by omega)).trans h.rest.c13,(q 14 (by omega)).trans h.rest.c14,⟨v15,(q 15 (by omega)).trans h15,h15'⟩,(q 16 (by omega)).trans h.rest.c16,(q 17 (by omega)).trans h.rest.c17,(q 18 (by omega)).trans h.rest.c18,(q 19 (by omega)).trans h.rest.c19,(q 20 (by omega)).trans h.rest.c20,(q 21 (by omega)).trans h.rest.c21,(q 22 (by omega)).trans h.rest.c22⟩
end
theorem jL.names{σ σ':Sst}{r:RdS}{l:List ByteArray}(h:jL σ r)(hn:NmTo σ σ' l):jL σ' { r with names:=l}:=by
 obtain⟨hr,v,e⟩:=hn;have e1:σ'.cs=σ.cs:=(congrArg Sst.cs e).trans rfl;have e2:σ'.fs=σ.fs:=(congrArg Sst.fs e).trans rfl;refine⟨by rw[e1];exact h.len,fun i cv c h1 h2=>?_,hr,(congrArg Sst.ranges e).trans h.rg,(congrArg Sst.bs e).trans h.bs,(congrArg Sst.ls e).trans h.ls,(congrArg Sst.gs e).trans h.gs⟩;rw[e1] at h1;rw[e2];exact h.cs i cv c h1 h2
theorem xE{α:Type}(p:α->Bool):∀l:List α,l.any p=(l.find? p).isSome
 | []=>rfl
 | a::l=>by
  rw[List.any_cons,Sa,xE p l]
  cases p a<;>rfl
section
variable {w0:World}{f b k:Nat}{src:ByteArray}{σ:Sst}{r:RdS}{L:List eE}{rn x:Nat}{nt:Bool}
theorem iq{e:Nat}{r2:RdS}{c2:aH}{R:Sst->List Value->Sst->List Value->Prop}(h:Ek w0 f b src k e σ R)(hx:∀cv σ' cv',Cz cv->Cv cv->R σ cv σ' cv'->cv'.take 4=cv.take 4/\gM σ'.fs cv' c2/\(jL σ r->jL σ' r2)/\Ql σ σ'):iI w0 f b src k σ r (.ok (e,r2,c2)):=by
 intro w cb cv hs hb hl hz hf hsl;refine(h w cb cv hs hb hl hz hf hsl).mono ?_;rintro q w1 ⟨σ',cv',rfl,s1,b1,l1,f1,hR⟩;obtain⟨x1,x2,x3,x4⟩:=hx cv σ' cv' hz hl hR;exact⟨rfl,σ',cv',s1,b1,l1,f1,x1,x2,x3,x4⟩
theorem gY{E pl:Nat}(h:OpF w0 f b src k σ E pl):iI w0 f b src k σ r (.error (E,pl)):=by
 intro w cb cv hs hb hl hz hf hsl;refine(h w cb cv hs hb hl hz hf hsl).mono ?_;rintro q w1 ⟨rfl,hk⟩;exact⟨rfl,hk⟩
theorem Ba:iI w0 101 b src k σ r (.ok (k,r,dH L rn nt x)):=
 iq ((Fp w0 b src k).at_ σ) (by rintro cv σ' cv' hz hl ⟨rfl,rfl⟩;exact⟨rfl,dv hz L rn nt x,fun h=>h,⟨rfl,rfl,fun _ h=>h⟩⟩)
theorem Fq(hk:k<=src.size):iI w0 99 b src k σ r (aG src k r (dH L rn nt 113)):=by
 have hle:=dm hk
 cases h:pZ src 0 255 (blk src k) with
 | error pl=>
  have e:aG src k r (dH L rn nt 113)=.error (4,pl):=by simp only[aG,dH,Nat.reduceEqDiff,if_false,or_self,if_true,h]
  rw[e];exact gY (Fs (uL h))
 | ok p=>
  obtain⟨e,v⟩:=p;have e1:aG src k r (dH L rn nt 113)=.ok (e,r,{ dH L rn nt 113 with status:=v}):=by simp only[aG,dH,Nat.reduceEqDiff,if_false,or_self,if_true,h]
  rw[e1];refine iq ((Jk w0 (uK (by omega) hle h)).at_ σ) ?_;rintro cv σ' cv' hz hl ⟨rfl,rfl⟩;have rz:=dv (fs:=σ'.fs) hz L rn nt 113;obtain⟨x0,x1,x2,x3,x4,x5,x6,x7,x8,x9,x10,x11,x12,x13,x14,x15,x16,x17,x18,x19,x20,x21,x22,rfl⟩:=eD hl.len;exact⟨rfl,⟨rz.c4,rz.c5,rz.c6,rz.c7,rfl,rz.c9,rz.c10,rz.c11,rz.c13,rz.c14,rz.c15,rz.c16,rz.c17,rz.c18,rz.c19,rz.c20,rz.c21,rz.c22⟩,fun h=>h,⟨rfl,rfl,fun _ h=>h⟩⟩
theorem Nh(hr:Pm σ r)(hk:1<=k)(h8:r.blocks.length<=8)(hcs:r.aD.length<=2000):iI w0 92 b src k σ r (aG src k r (dH L rn nt 123)):=by
 by_cases h:r.blocks.length=8
 .have e:aG src k r (dH L rn nt 123)=.error (6,k-1):=by simp only[aG,dH,if_true,h]
  rw[e];exact gY (Nk (by rw[hr.bs];exact h) hk)
 .have e:aG src k r (dH L rn nt 123)=.ok (k,{ r with blocks:=r.blocks++[r.aD.length]},dH L rn nt 123):=by simp only[aG,dH,if_true,h,if_false]
  rw[e];refine iq (op_open (by rw[hr.bs];omega) (by rw[hr.len];exact hcs)) ?_;rintro cv σ' cv' hz hl ⟨⟨v,rfl⟩,rfl⟩;exact⟨rfl,dv hz L rn nt 123,fun hr=>⟨hr.len,hr.cs,⟨hr.nm.ns,hr.nm.nm⟩,hr.rg,by show σ.bs++_=r.blocks++_;rw[hr.bs,hr.len],hr.ls,hr.gs⟩,⟨rfl,rfl,fun _ h=>h⟩⟩
theorem Ng(hr:Pm σ r)(hk:1<=k)(h8:r.blocks.length<=8)(hcs:r.aD.length<=2000)(hbl:∀i∈r.blocks,i<r.aD.length):iI w0 93 b src k σ r (aG src k r (dH L rn nt 125)):=by
 cases h:r.blocks.getLast? with
 | none=>
  have e:aG src k r (dH L rn nt 125)=.error (6,k-1):=by simp only[aG,dH,Nat.reduceEqDiff,if_false,if_true,h]
  rw[e];exact gY (Nj (by rw[hr.bs];exact List.getLast?_eq_none_iff.1 h) hk)
 | some i=>
  have e:aG src k r (dH L rn nt 125)=.ok (k,{ r with blocks:=r.blocks.dropLast,aD:=r.aD.modify i fun d=>{ d with goal:=r.aD.length}},dH L rn nt 125):=by simp only[aG,dH,Nat.reduceEqDiff,if_false,if_true,h]
  rw[e];obtain⟨l,hl⟩:=List.getLast?_eq_some_iff.1 h;have hi:i<r.aD.length:=hbl i (by rw[hl];simp);have hll:l.length<=8:=by rw[hl,Qy] at h8;omega
  obtain⟨c,hc⟩:∃c,σ.cs[i]? = some c:=⟨_,QA (by rw[hr.len];exact hi)⟩;refine iq (op_shut (hr.bs.trans hl) hc (by rw[hr.len];exact hcs) hll) ?_;rintro cv σ' cv' hz hlv ⟨l',i',c',v,q1,q2,rfl,rfl⟩;rw[hr.bs.trans hl] at q1;obtain⟨rfl,q3⟩:=List.append_inj' q1 rfl;injection q3 with q3;subst q3;rw[hc] at q2;injection q2 with q2;subst q2;refine⟨rfl,dv hz L rn nt 125,fun hr=>⟨by simp[hr.len],fun j cv c2 h1 h2=>?_,⟨hr.nm.ns,hr.nm.nm⟩,hr.rg,by show l=r.blocks.dropLast;rw[hl,List.dropLast_concat],hr.ls,hr.gs⟩,⟨rfl,by simp,fun _ h=>h⟩⟩;replace h1:(σ.cs.set i (c.set 5 (.int .i64 (σ.cs.length:Int))))[j]? = some cv:=h1;replace h2:(r.aD.modify i fun d=>{ d with goal:=r.aD.length})[j]? = some c2:=h2;rw[Sk] at h2;by_cases hj:i=j
  .subst hj;rw[QI (by rw[hr.len];exact hi)] at h1;injection h1 with h1;subst h1;obtain⟨d,hd⟩:∃d,r.aD[i]? = some d:=⟨_,QA hi⟩;rw[hd] at h2;simp only[if_true] at h2;injection h2 with h2;subst h2;rw[hr.len];exact(hr.cs i c d hc hd).goal _
  .rw[QL hj] at h1;simp only[hj,if_false] at h2;exact hr.cs j cv c2 h1 (by simpa using h2)
theorem Jl(hr:Pm σ r)(hk:k<=src.size)(hcs:r.aD.length<=2000):iI w0 94 b src k σ r (aG src k r (dH L rn nt 58)):=by
 have hle:=dm hk
 cases h:wdE src (blk src k) (src.size+1) (blk src k) with
 | error pl=>
  have e:aG src k r (dH L rn nt 58)=.error (4,pl):=by simp only[aG,dH,Nat.reduceEqDiff,if_false,if_true,dT,h]
  rw[e];exact gY (Jn (tZ (by omega) hle h))
 | ok e=>
  have hw:dT src k=.ok (e,src.extract (blk src k) e):=by unfold dT;rw[h]
  have hx:=dB hk hw;obtain⟨x,hxe⟩:∃x,x=src.extract (blk src k) e:=⟨_,rfl⟩;rw[<-hxe] at hw hx
  cases ha:r.labels.any (x == ·.1)
  .have e1:aG src k r (dH L rn nt 58)=.ok (e,{ r with labels:=r.labels++[(x,r.aD.length)]},{ dH L rn nt 58 with label:=x}):=by simp only[aG,dH,Nat.reduceEqDiff,if_false,if_true,hw,ha,Sq]
   rw[e1];refine iq (Nf (xY h) hxe.symm (by rw[hr.ls];exact jQ x _ 0 0 ha) (by rw[hr.len];exact hcs)) ?_;rintro cv σ' cv' hz hl ⟨rfl,rfl⟩;have rz:=dv (fs:=σ.fs) hz L rn nt 58;obtain⟨x0,x1,x2,x3,x4,x5,x6,x7,x8,x9,x10,x11,x12,x13,x14,x15,x16,x17,x18,x19,x20,x21,x22,rfl⟩:=eD hl.len;exact⟨rfl,⟨rfl,rz.c5,rz.c6,rz.c7,rz.c8,rz.c9,rz.c10,rz.c11,rz.c13,rz.c14,rz.c15,rz.c16,rz.c17,rz.c18,rz.c19,rz.c20,rz.c21,rz.c22⟩,fun hr=>⟨hr.len,hr.cs,⟨hr.nm.ns,hr.nm.nm⟩,hr.rg,hr.bs,by show σ.ls++_=r.labels++_;rw[hr.ls,hr.len],hr.gs⟩,⟨rfl,rfl,fun _ h=>h⟩⟩
  .have e1:aG src k r (dH L rn nt 58)=.error (5,e-x.size):=by simp only[aG,dH,Nat.reduceEqDiff,if_false,if_true,hw,ha]
   rw[e1];rw[xE] at ha;obtain⟨⟨y,n⟩,hy⟩:=Option.isSome_iff_exists.1 ha;obtain⟨j,hj⟩:=iL x _ 0 0 y n hy;exact gY (Jm (xY h) hxe.symm (by omega) (by rw[hr.ls];exact hj))
theorem rV(hx:x=98\/x=116)(hr:Pm σ r)(hk:k<=src.size)(hsz:src.size<=2000)(hcs:r.aD.length<=2000):iI w0 95 b src k σ r (aG src k r (dH L rn nt x)):=by
 have hle:=dm hk;have hle2:=dm hle;have n1:x≠123:=by omega
 have n2:x≠125:=by omega
 have n3:x≠58:=by omega
 cases hw:isW src (blk src k)
 .have e:aG src k r (dH L rn nt x)=.ok (blk src k,{ r with wanted:=r.wanted++[(r.aD.length,blk src k)]},dH L rn nt x):=by
   unfold aG;rw[show(dH L rn nt x).what=x from rfl,Qw n1,Qw n2,Qw n3,QB hx,hw,Qw (by simp)]
  rw[e];refine iq (Np hw rfl rfl (by omega) (by rw[hr.len];exact hcs)) ?_;rintro cv σ' cv' hz hl ⟨⟨v,rfl⟩,rfl⟩;have rz:=dv (fs:=σ.fs) hz L rn nt x;obtain⟨x0,x1,x2,x3,x4,x5,x6,x7,x8,x9,x10,x11,x12,x13,x14,x15,x16,x17,x18,x19,x20,x21,x22,rfl⟩:=eD hl.len;exact⟨rfl,⟨rfl,rz.c5,rz.c6,rz.c7,rz.c8,rz.c9,rz.c10,rz.c11,rz.c13,rz.c14,rz.c15,rz.c16,rz.c17,rz.c18,rz.c19,rz.c20,rz.c21,rz.c22⟩,fun hr=>⟨hr.len,hr.cs,⟨hr.nm.ns,hr.nm.nm⟩,hr.rg,hr.bs,hr.ls,by show σ.gs++_=r.wanted++_;rw[hr.gs,hr.len]⟩,⟨rfl,rfl,fun _ h=>h⟩⟩
 .cases h:wdE src (blk src (blk src k)) (src.size+1) (blk src (blk src k)) with
  | error pl=>
   have e:aG src k r (dH L rn nt x)=.error (4,pl):=by
    unfold aG;rw[show(dH L rn nt x).what=x from rfl,Qw n1,Qw n2,Qw n3,QB hx,hw,QB rfl];unfold dT;rw[h]
   rw[e];exact gY (Ft hw (tZ (by omega) hle2 h))
  | ok e=>
   have hwd:dT src (blk src k)=.ok (e,src.extract (blk src (blk src k)) e):=by unfold dT;rw[h]
   have hy:=dB hle hwd;obtain⟨y,hye⟩:∃y,y=src.extract (blk src (blk src k)) e:=⟨_,rfl⟩;rw[<-hye] at hwd hy;have e1:aG src k r (dH L rn nt x)=.ok (e,{ r with wanted:=r.wanted++[(r.aD.length,e-y.size)]},{ dH L rn nt x with label:=y}):=by
    unfold aG;rw[show(dH L rn nt x).what=x from rfl,Qw n1,Qw n2,Qw n3,QB hx,hw,QB rfl,hwd]
    rfl
   rw[e1];refine iq (Nn (pl:=e-y.size) hw (xY h) hye.symm (by omega) (by omega) (by rw[hr.len];exact hcs)) ?_;rintro cv σ' cv' hz hl ⟨⟨v,rfl⟩,rfl⟩;have rz:=dv (fs:=σ.fs) hz L rn nt x;obtain⟨x0,x1,x2,x3,x4,x5,x6,x7,x8,x9,x10,x11,x12,x13,x14,x15,x16,x17,x18,x19,x20,x21,x22,rfl⟩:=eD hl.len;exact⟨rfl,⟨rfl,rz.c5,rz.c6,rz.c7,rz.c8,rz.c9,rz.c10,rz.c11,rz.c13,rz.c14,rz.c15,rz.c16,rz.c17,rz.c18,rz.c19,rz.c20,rz.c21,rz.c22⟩,fun hr=>⟨hr.len,hr.cs,⟨hr.nm.ns,hr.nm.nm⟩,hr.rg,hr.bs,hr.ls,by show σ.gs++_=r.wanted++_;rw[hr.gs,hr.len]⟩,⟨rfl,rfl,fun _ h=>h⟩⟩
theorem uI(hx:x=97\/x=105\/x=99):iI w0 96 b src k σ r (aG src k r (dH L rn nt x)):=by
 intro w cb cv hs hb hl hz hf hsl;refine(text_o hs hb hl hf).mono ?_;intro q w1 hq
 have e:aG src k r (dH L rn nt x)=(match fP src (src.size+1) (blk src k) [] with
   | .error pl=>.error (4,pl)
   | .ok (e,l)=>.ok (e,r,{ dH L rn nt x with text:=⟨src.extract (blk src k) e,l⟩})):=by
  unfold aG;rw[show(dH L rn nt x).what=x from rfl,Qw (by omega),Qw (by omega),Qw (by omega),Qw (by omega),QB hx]
  cases fP src (src.size+1) (blk src k) []<;>rfl
 rw[e]
 cases ht:fP src (src.size+1) (blk src k) [] with
 | error pl=>
  rw[ht] at hq;exact hq
 | ok p=>
  obtain⟨e1,l⟩:=p;rw[ht] at hq;obtain⟨rfl,s1,b1⟩:=hq;refine⟨rfl,σ,_,s1,b1,(hl.set 9 rfl).set 10 rfl,hf,?_,?_,fun h=>h,⟨rfl,rfl,fun _ h=>h⟩⟩
  .obtain⟨x0,x1,x2,x3,x4,x5,x6,x7,x8,x9,x10,x11,x12,x13,x14,x15,x16,x17,x18,x19,x20,x21,x22,rfl⟩:=eD hl.len
   rfl
  .have rz:=dv (fs:=σ.fs) hz L rn nt x;obtain⟨x0,x1,x2,x3,x4,x5,x6,x7,x8,x9,x10,x11,x12,x13,x14,x15,x16,x17,x18,x19,x20,x21,x22,rfl⟩:=eD hl.len;exact⟨rz.c4,rz.c5,rz.c6,rz.c7,rz.c8,rfl,rfl,rz.c11,rz.c13,rz.c14,rz.c15,rz.c16,rz.c17,rz.c18,rz.c19,rz.c20,rz.c21,rz.c22⟩
theorem Qa{w w1:World}{cb e:Nat}{cv:List Value}{c c2:aH}{r2:RdS}(hf:FileO w0 b cb src σ cv (e,r2,c2) w1)(hl:Cv cv){σ0:Sst}(hr:jL σ0 r->jL σ r)(hx:gM σ.fs cv c)(hk:Qn src k e r r2 c c2){cv0:List Value}(h4:cv.take 4=cv0.take 4)(hfs:Ql σ0 σ):OperR w0 b cb src σ0 cv0 r (e,r2,c2) w1:=by
 obtain⟨σ',s1,b1,f1,hn⟩:=hf;have e1:σ'.fs=σ.fs:=(congrArg Sst.fs hn.2.choose_spec).trans rfl;refine⟨σ',_,s1,b1,FlC.len hl,f1,?_,?_,?_,⟨(congrArg Sst.quiet hn.2.choose_spec).trans hfs.qt,(congrArg (fun q:Sst=>q.cs.length) hn.2.choose_spec).trans hfs.cl,fun f hf=>by rw[e1];exact hfs.fx f hf⟩⟩
 .rw[<-h4];obtain⟨x0,x1,x2,x3,x4,x5,x6,x7,x8,x9,x10,x11,x12,x13,x14,x15,x16,x17,x18,x19,x20,x21,x22,rfl⟩:=eD hl.len
  rfl
 .rw[e1];exact hx.flc hl hk.ceq
 .intro h0;have:=(hr h0).names hn;rw[hk.req];exact this
theorem Ni(hr:Pm σ r)(hk:k<=src.size):iI w0 100 b src k σ r (aG src k r (dH L rn nt 119)):=by
 intro w cb cv hs hb hl hz hf hsl;have rz:=dv (fs:=σ.fs) hz L rn nt 119;have hcc:FlC cv (dH L rn nt 119)=cv:=DS hl rz.c6 rz.c7 rz.c16 rz.c17 rz.c18;have e:aG src k r (dH L rn nt 119)=gQ src k r (dH L rn nt 119):=by
  unfold aG;rw[show(dH L rn nt 119).what=119 from rfl,Qw (by omega),Qw (by omega),Qw (by omega),Qw (by omega),Qw (by omega),Qw (by omega),Qw (by omega),Qw (by omega),QB rfl]
 rw[e];refine(Qb (c:=dH L rn nt 119) (r:=r) hs (by rw[hcc];exact hb) hl hf hsl hr.nm).mono ?_;intro q w1 hq
 cases hfe:gQ src k r (dH L rn nt 119) with
 | error p=>rw[hfe] at hq;exact hq
 | ok p=>
  obtain⟨e1,r2,c2⟩:=p;rw[hfe] at hq;exact⟨hq.1,Qa (w:=w) hq.2 hl (fun h=>h) rz (iz hk hfe).1 rfl Ql.IE⟩
end
