import Derived.Test.YtiahkfoojjpaaaaGreatDoorS02
import Derived.Test.YtiahkfoojjpaaaaGreatDoorS04
import Derived.Shelf.Small.Strs
import Derived.Shelf.Strconv.Clone
import Derived.Shelf.Strconv.Itoa3
import Derived.Shelf.Strings.Search2
set_option maxRecDepth 100000
set_option maxHeartbeats 16000000
set_option linter.all false
namespace Go.Proofs.YtiahkfoojjpaaaaGreatDoor
open Go.RowKit
theorem GQ(p q r:Addr)(w:World):CallsD Tryz.prog 86 #[.pointer (some p),.pointer (some q),.pointer (some r)] .returning w fun e u' w'=>e=.returned (.tuple #[])/\u'=.returning/\w'=w:=by
 refine callsD_of_wpS Tryz.func86 rfl fun c₀ cs hu=>?_;apply wpS_seq;apply wpS_region;simp[wpOpsS,go_sem,recoverD,hu,Tryz.ntmps86,Exit.thenS];refine wpS_of_wp ?_;go_wp2
 cases c₀
 simp_all [bodyPostS,results,Tryz.results86]
theorem AV{src:ByteArray}{groups n:Nat}{bg:Int}{deepest:Nat}{xs:List Value}{w:World}{a:Nat}(ha:w.cell? ⟨a,0,none⟩=some (.string src))(hw:Nm w)(hs:src.size<=100)(hn:0<n)(hp:Reads src 0 groups n bg deepest xs):Calls Tryz.prog 45 #[.pointer (some ⟨a,0,none⟩)] w fun e w'=>∃p,e=.returned (.pointer (some ⟨p,0,none⟩))/\PtR w.heap.size w' p n bg groups deepest xs/\Kp [] w w':=by
 go_enter Tryz.func45,Tryz.ntmps45
 go_wp2_with fail;refine(Dg (fr:=0) hw (by omega) (by omega) (by omega) hn hp).mono ?_;rintro e w1 ⟨p,rfl,pt,k1⟩;go_wp2_with fail;go_ret;exact⟨p,rfl,pt,k1⟩
theorem GP{src:ByteArray}{groups n:Nat}{bg:Int}{deepest:Nat}{xs:List Value}{w:World}{a:Nat}(ha:w.cell? ⟨a,0,none⟩=some (.string src))(hw:Nm w)(hs:src.size<=100)(hn:0<n)(hp:Reads src 0 groups n bg deepest xs):Calls Tryz.prog 44 #[.func (.func 45) #[] #[.pointer (some ⟨a,0,none⟩)]] w fun e w'=>∃p,e=.returned (.tuple #[.pointer (some ⟨p,0,none⟩),.int .i64 0,.int .i64 0])/\PtR w.heap.size w' p n bg groups deepest xs/\Kp [] w w':=by
 have hmf:∀(fn:Fn) (first cap:Array Value) (w:World),(Instr.makeFunc fn first cap).run Tryz.prog w=.ok (.func fn first cap) w:=fun _ _ _ _=>rfl;go_enter_defers Tryz.func44,Tryz.ntmps44
 go_wp2_with fail;obtain⟨W,hW⟩:∃W:World,W=((w.alloc (.cells #[.pointer none] 66)).alloc (.cells #[.int .i64 0] 24)).alloc (.cells #[.int .i64 0] 3):=⟨_,rfl⟩;have kW:Kp [] w W:=by rw[hW];exact(Kp.alloc _ _ _).trans ((Kp.alloc _ _ _).trans (Kp.alloc _ _ _))
 have zW:W.heap.size=w.heap.size+3:=by rw[hW];simp
 have a0:W.cell? ⟨w.heap.size,0,none⟩=some (.pointer none):=by rw[hW];simp[go_sem]
 have a1:W.cell? ⟨w.heap.size+1,0,none⟩=some (.int .i64 0):=by rw[hW];simp[go_sem]
 have a2:W.cell? ⟨w.heap.size+1+1,0,none⟩=some (.int .i64 0):=by rw[hW];simp[go_sem]
 have f0:W.frozen? ⟨w.heap.size,0,none⟩=false:=by rw[hW];simp[go_sem]
 have f1:W.frozen? ⟨w.heap.size+1,0,none⟩=false:=by rw[hW];simp[go_sem]
 have f2:W.frozen? ⟨w.heap.size+1+1,0,none⟩=false:=by rw[hW];simp[go_sem]
 rw[<-hW];clear hW;refine(AV ((kW.cell (p:=⟨a,0,none⟩) (World.block_lt_of_cell? _ _ ha) (by simp)).trans ha) (hw.aj kW (by simp)) hs hn hp).mono ?_;rintro e w1 ⟨p,rfl,pt,k1⟩;have b0:=(k1.cell (p:=⟨w.heap.size,0,none⟩) (by simp;omega) (by simp)).trans a0;have b1:=(k1.cell (p:=⟨w.heap.size+1,0,none⟩) (by simp;omega) (by simp)).trans a1;have b2:=(k1.cell (p:=⟨w.heap.size+1+1,0,none⟩) (by simp;omega) (by simp)).trans a2;have g0:=(k1.frozen (p:=⟨w.heap.size,0,none⟩) (by simp;omega) (by simp)).trans f0;have g1:=(k1.frozen (p:=⟨w.heap.size+1,0,none⟩) (by simp;omega) (by simp)).trans f1;have g2:=(k1.frozen (p:=⟨w.heap.size+1+1,0,none⟩) (by simp;omega) (by simp)).trans f2;clear a0 a1 a2 f0 f1 f2;go_wp2_with fail;refine leaves_cons (f:=86) (args:=#[.pointer (some ⟨w.heap.size,0,none⟩),.pointer (some ⟨w.heap.size+1,0,none⟩),.pointer (some ⟨w.heap.size+1+1,0,none⟩)]) (by simp) (by simp[go_sem]) ?_
 refine(GQ _ _ _ _).mono ?_;rintro e u' w'' ⟨rfl,rfl,rfl⟩
 have K1:Kp [w.heap.size,w.heap.size+1,w.heap.size+1+1] w1 (((w1.setCell ⟨w.heap.size,0,none⟩ (.pointer (some ⟨p,0,none⟩))).setCell ⟨w.heap.size+1,0,none⟩ (.int .i64 0)).setCell ⟨w.heap.size+1+1,0,none⟩ (.int .i64 0)):=
  (Kp.setCell _ _ (by simp)).trans ((Kp.setCell _ _ (by simp)).trans (Kp.setCell _ _ (by simp)))
 have pt2:=pt.aj K1 (by intro x hx;simp at hx;omega);have K2:=Kp.own (x:=w.heap.size) (Kp.own (x:=w.heap.size+1) (Kp.own (x:=w.heap.size+1+1) (S:=[w.heap.size+1,w.heap.size]) (((kW.trans k1).mono (by simp)).trans (K1.mono (by simp))) (by omega)) (by omega)) (by omega);simp[Leaves,settle,results,Tryz.results44,go_sem,b0,b1,b2];exact⟨pt2.lower (by omega),K2⟩
theorem pR{src:ByteArray}{groups n:Nat}{bg:Int}{deepest:Nat}{xs:List Value}{w:World}(hw:Nm w)(hs:src.size<=100)(hn:0<n)(hp:Reads src 0 groups n bg deepest xs):Calls Tryz.prog 31 #[.string src] w fun e w'=>∃p,e=.returned (.tuple #[.pointer (some ⟨p,0,none⟩),.int .i64 0,.int .i64 0])/\PtR w.heap.size w' p n bg groups deepest xs/\Kp [] w w':=by
 have hmf:∀(fn:Fn) (first cap:Array Value) (w:World),(Instr.makeFunc fn first cap).run Tryz.prog w=.ok (.func fn first cap) w:=fun _ _ _ _=>rfl;have k0:=Kp.alloc [] w (.cells #[.string src] 9);go_enter Tryz.func31,Tryz.ntmps31
 go_wp2_with fail;refine(GP (a:=w.heap.size) (by simp) (hw.aj k0 (by simp)) hs hn hp).mono ?_;rintro e w1 ⟨p,rfl,pt,k1⟩;go_wp2_with fail;go_ret3
 exact⟨p,rfl,pt.lower k0.size,k0.trans k1⟩
theorem jR{P:Program}{ops:Array Oper}{o:Oper}{a:Act}{w:World}{K:Act->World->Prop}{Q:Exit->Act->World->Prop}{E:Prop}(hg:o.guard=none)(s x:Operand)(t:TypeId)(hop:o.op=Op.call { callee:=Callee.builtin Builtin.append,args:=#[s,x],argTypes:=#[t,t]})(base:Nat)(e:TypeId)(i:TypeInfo)(z:Value)(size bytes:Nat)(h1:P.underlying t=some (.slice e))(h2:P.info? e=some i)(h3:i.zero=some z)(h4:i.size=size)(h5:i.bytes=bytes)(h6:z.cells.size=size)(h7:0<size)(v:Value)(n:Nat)(xs:List Value)(hs:a.eval s=v)(hown:w.ownsRow base e size v n xs)(ad:Addr)(m c:Nat)(news:List Value)(hx:a.eval x=.slice (some ad) m c)(hn:news.length=m*size)(hc:∀j u,news[j]? = some u->w.cell? (ad.add j)=some u)(h1c:∀u∈news,u.oneCell'=true)(b1:n+m<=maxLen)(b2:(n+m)*bytes<=140737488355328)(hbase:base<=w.heap.size)(hm:0<m)(hK:∀g cap w',w'.ownsRow base e size (.slice (some ⟨g,0,none⟩) (n+m) cap) (n+m) (xs++news)->w.grownBy w' v.ownBlock->(v.ownBlock=some g\/w.heap.size<=g)->K (a.put o.dst (.slice (some ⟨g,0,none⟩) (n+m) cap)) w'):if Region.wanted o (yielded ops a.tmps)=true then Oper.wp P o a w K Q else E:=by
 have hw:Region.wanted o (yielded ops a.tmps)=true:=by simp[Region.wanted,hg]
 rw[QB hw];obtain⟨g,cap,w',hrun,r1,r2,r3⟩:=Iz (P:=P) (ty:=o.type) h1 h2 h3 h4 h5 h6 h7 hown hn hc h1c b1 b2 hbase hm (c:=c);unfold Oper.wp;simp[execOp,hop,resolve,invoke,builtin,hs,hx,hrun,Result.andThen];exact hK g cap w' r1 r2 r3
theorem jO{P:Program}{ops:Array Oper}{rest:List Oper}{op:Oper}{a:Act}{w1:World}{Q:Exit->Act->World->Prop}(hgd:op.guard=none)(ty:TypeId)(x y:Operand)(ho:op.op=.store ty x y)(zs:List Value)(T:TypeId)(cells:List Value)(hx:a.eval x=.pointer (some ⟨w1.heap.size,0,none⟩))(hy:a.eval y=.agg cells.toArray)(hl:cells.length=zs.length)(hi:(P.info? ty).map (·.size)=some cells.length)(h1:∀u∈cells,u.oneCell'=true)(h:∀w2,Bl w2 w1.heap.size cells->Kp [] w1 w2->wpList P ops Q rest (a.put op.dst undef) w2):wpList P ops Q (op::rest) a (w1.alloc (.cells zs.toArray T)):=by
 have B:=Bl.alloc w1 zs T;refine wpList_store_mid hgd ty x y ho w1.heap.size 0 cells.toArray hx hy (fun j hj=>?_) (by simpa using hi) (all_oneCell_toArray h1) (h _ ?_ ?_)
 .have hj':j<zs.length:=by rw[<-hl];simpa using hj
  rw[QH,B.at_ j _ (QA hj')];exact⟨rfl,B.free j⟩
 .exact B.put hl
 .exact(((Kp.alloc _ _ _).trans (dV (S:=[w1.heap.size]) (by simp) _ _ _)).own (QD _))
theorem Tryz.pI:(Tryz.prog.info? 93).map (·.size)=some 23:=by kernel_rfl
theorem Tryz.Bq:(Tryz.prog.info? 93).map (fun i=>(i.zero,i.size,i.bytes))=some (some (.agg (Gy (.slice none 0 0) 0 false 0).toArray),23,296):=by kernel_rfl
def Ct(w0 w':World)(b:Nat)(src:ByteArray)(k5:Nat)(σ:Sst)(L:List Adr)(nt:Bool)(x:Nat)(R:Sst->List Value->Sst->List Value->Prop):Prop:=
 ∃A c fs σ' cv' v',CD fs (.slice A L.length c) L/\(∀f∈σ.fs,f∈fs) /\
  R { σ with ranges:=if L.length=2 then σ.ranges+1 else σ.ranges,fs:=fs} (Gy (.slice A L.length c) (if L.length=2 then σ.ranges else 0) nt x) σ' cv'/\Sr w0 w' b src k5 { σ' with vc:=v',cs:=σ'.cs++[cv']}
def pfxB(s p:ByteArray):Bool:=decide (p.size<=s.size)&&((s.extract 0 p.size).toList==p.toList)
theorem Bu(s p:ByteArray)(w:World):Calls Tryz.prog 102 #[.string s,.string p] w fun e w'=>e=.returned (.bool (pfxB s p))/\w'=w:=by
 go_enter Tryz.func102,Tryz.ntmps102
 go_wp2
 .go_ret;have h:p.size<=s.size:=by assumption
  exact⟨by simp[pfxB,h],rfl⟩
 .go_ret;have h:¬p.size<=s.size:=by assumption
  exact⟨by simp[pfxB,h],rfl⟩
section
variable {w0 w w':World}{b k:Nat}{src:ByteArray}{σ:Sst}
theorem yo(b:Nat)(σ:Sst)(q:Bool):srB b { σ with quiet:=q}=srB b σ:=by
 funext i
 rcases i with _|_|_|_|_|_|_|_|i<;>rfl
theorem Sr.quiet(h:Sr w0 w b src k σ)(q:Bool):Sr w0 (w.setCell ⟨b,3,none⟩ (.bool q)) b src k { σ with quiet:=q}:=by
 have kp:Kp [b] w (w.setCell ⟨b,3,none⟩ (.bool q)):=Kp.setCell _ _ (by simp);have hc:∀j,j≠3->(w.setCell ⟨b,3,none⟩ (Value.bool q)).cell? ⟨b,j,none⟩=w.cell? ⟨b,j,none⟩:=fun j hj=>aq _ (fun e=>by injection e with _ e2 _;exact hj e2.symm);refine⟨⟨by simpa[World.setCell] using h.cur.lt,h.cur.le,h.cur.small,(hc _ (by omega)).trans h.cur.c0,(hc _ (by omega)).trans h.cur.c1,fun i=>by simpa using h.cur.free i⟩,⟨(hc _ (by omega)).trans h.c.c2,aw _ h.c.c3,(hc _ (by omega)).trans h.c.c4,(hc _ (by omega)).trans h.c.c5,(hc _ (by omega)).trans h.c.c6,(hc _ (by omega)).trans h.c.c7,(hc _ (by omega)).trans h.c.c8,(hc _ (by omega)).trans h.c.c9,(hc _ (by omega)).trans h.c.c10,(hc _ (by omega)).trans h.c.c11⟩,?_⟩
 have r:=h.r.aj kp (fun x hx=>by
  simp at hx;subst hx
  exact⟨h.r.bk.lo 0 x rfl,fun i hi e=>by have:=h.r.bk.ne i 0 x e rfl;omega,fun f hf e=>(h.r.fx f hf).2.2 0 (by rw[e];rfl)⟩)
 exact⟨r.kp,r.o4,r.o5,r.o8,r.o11,r.m7,r.m9,r.m10,r.len,by rw[yo];exact r.bk,by rw[yo];exact r.fx⟩
def qtB(src:ByteArray):Bool:=(src.toList==[35,110])||pfxB src ⟨#[35,110,10]⟩
end
end Go.Proofs.YtiahkfoojjpaaaaGreatDoor
namespace Go.Proofs.YtiahkfoojjpaaaaGreatDoor
open Go.Shelf Go.RowKit
def Tryz.yV:Go.Shelf.Ren:=⟨fun|171=>108|243=>154|246=>169|283=>175|284=>176|285=>177|286=>178|129=>187|317=>186|318=>188|319=>189|320=>190|337=>198|338=>199|n=>n,fun|3=>3|9=>9|2=>2|4=>4|171=>221|0=>0|53=>148|37=>49|5=>5|173=>224|212=>233|51=>234|20=>20|213=>235|46=>203|232=>253|233=>254|n=>n,fun|17=>1|18=>2|19=>3|n=>n⟩
theorem Tryz.NQ:Go.Proofs.LaysM.n171 Tryz.prog Tryz.yV:={
 mixed:=by kernel_rfl
 f129:=Tryz.func187.trans (congrArg some (by kernel_rfl))
 f171:=Tryz.func108.trans (congrArg some (by kernel_rfl))
 f243:=Tryz.func154.trans (congrArg some (by kernel_rfl))
 f246:=Tryz.func169.trans (congrArg some (by kernel_rfl))
 f283:=Tryz.func175.trans (congrArg some (by kernel_rfl))
 f284:=Tryz.func176.trans (congrArg some (by kernel_rfl))
 f285:=Tryz.func177.trans (congrArg some (by kernel_rfl))
 f286:=Tryz.func178.trans (congrArg some (by kernel_rfl))
 f317:=Tryz.func186.trans (congrArg some (by kernel_rfl))
 f318:=Tryz.func188.trans (congrArg some (by kernel_rfl))
 f319:=Tryz.func189.trans (congrArg some (by kernel_rfl))
 f320:=Tryz.func190.trans (congrArg some (by kernel_rfl))
 f337:=Tryz.func198.trans (congrArg some (by kernel_rfl))
 f338:=Tryz.func199.trans (congrArg some (by kernel_rfl))
 t0:=Tryz.underlying0
 a0:=Tryz.isAgg0
 z0:=Tryz.sizeOf0
 v0:=Tryz.zeroValue0
 t2:=Tryz.underlying2
 a2:=Tryz.isAgg2
 z2:=Tryz.sizeOf2
 v2:=Tryz.zeroValue2
 t3:=Tryz.underlying3
 a3:=Tryz.isAgg3
 z3:=Tryz.sizeOf3
 v3:=Tryz.zeroValue3
 t4:=Tryz.underlying4
 a4:=Tryz.isAgg4
 z4:=Tryz.sizeOf4
 v4:=Tryz.zeroValue4
 t5:=Tryz.underlying5
 a5:=Tryz.isAgg5
 z5:=Tryz.sizeOf5
 v5:=Tryz.zeroValue5
 t9:=Tryz.underlying9
 a9:=Tryz.isAgg9
 z9:=Tryz.sizeOf9
 v9:=Tryz.zeroValue9
 t20:=Tryz.underlying20
 a20:=Tryz.isAgg20
 z20:=Tryz.sizeOf20
 v20:=Tryz.zeroValue20
 t37:=Tryz.underlying49
 a37:=Tryz.isAgg49
 z37:=Tryz.sizeOf49
 v37:=Tryz.zeroValue49
 t46:=Tryz.underlying203
 a46:=Tryz.isAgg203
 z46:=Tryz.sizeOf203
 v46:=Tryz.zeroValue203
 t51:=Tryz.underlying234
 a51:=Tryz.isAgg234
 z51:=Tryz.sizeOf234
 v51:=Tryz.zeroValue234
 t53:=Tryz.underlying148
 a53:=Tryz.isAgg148
 z53:=Tryz.sizeOf148
 v53:=Tryz.zeroValue148
 t171:=Tryz.underlying221
 a171:=Tryz.isAgg221
 z171:=Tryz.sizeOf221
 v171:=Tryz.zeroValue221
 t173:=Tryz.underlying224
 a173:=Tryz.isAgg224
 z173:=Tryz.sizeOf224
 v173:=Tryz.zeroValue224
 t212:=Tryz.underlying233
 a212:=Tryz.isAgg233
 z212:=Tryz.sizeOf233
 v212:=Tryz.zeroValue233
 t213:=Tryz.underlying235
 a213:=Tryz.isAgg235
 z213:=Tryz.sizeOf235
 t232:=Tryz.underlying253
 a232:=Tryz.isAgg253
 z232:=Tryz.sizeOf253
 v232:=Tryz.zeroValue253
 t233:=Tryz.underlying254
 a233:=Tryz.isAgg254
 z233:=Tryz.sizeOf254
 v233:=Tryz.zeroValue254
 g17:=by kernel_rfl
 g18:=by kernel_rfl
 g19:=by kernel_rfl
 i0:=by kernel_rfl
 i2:=by kernel_rfl
 i3:=by kernel_rfl
 i4:=by kernel_rfl
 i5:=by kernel_rfl
 i9:=by kernel_rfl
 i20:=by kernel_rfl
 i37:=by kernel_rfl
 i46:=by kernel_rfl
 i51:=by kernel_rfl
 i53:=by kernel_rfl
 i171:=by kernel_rfl
 i173:=by kernel_rfl
 i212:=by kernel_rfl
 i232:=by kernel_rfl
 i233:=by kernel_rfl
 m17:=by kernel_rfl
 m18:=by kernel_rfl
 m19:=by kernel_rfl}
def Tryz.yU:Go.Shelf.Ren:=⟨fun|316=>91|n=>n,fun|9=>9|3=>3|4=>4|37=>49|0=>0|127=>133|5=>5|n=>n,fun|n=>n⟩
theorem Tryz.NP:Go.Proofs.LaysM.n316 Tryz.prog Tryz.yU:={
 mixed:=by kernel_rfl
 f316:=Tryz.func91.trans (congrArg some (by kernel_rfl))
 t0:=Tryz.underlying0
 a0:=Tryz.isAgg0
 z0:=Tryz.sizeOf0
 v0:=Tryz.zeroValue0
 t3:=Tryz.underlying3
 a3:=Tryz.isAgg3
 z3:=Tryz.sizeOf3
 v3:=Tryz.zeroValue3
 t4:=Tryz.underlying4
 a4:=Tryz.isAgg4
 z4:=Tryz.sizeOf4
 v4:=Tryz.zeroValue4
 t9:=Tryz.underlying9
 a9:=Tryz.isAgg9
 z9:=Tryz.sizeOf9
 v9:=Tryz.zeroValue9
 t37:=Tryz.underlying49
 a37:=Tryz.isAgg49
 z37:=Tryz.sizeOf49
 v37:=Tryz.zeroValue49
 t127:=Tryz.underlying133
 a127:=Tryz.isAgg133
 z127:=Tryz.sizeOf133
 v127:=Tryz.zeroValue133
 t5:=Tryz.underlying5
 a5:=Tryz.isAgg5
 z5:=Tryz.sizeOf5
 v5:=Tryz.zeroValue5
 i0:=by kernel_rfl
 i3:=by kernel_rfl
 i4:=by kernel_rfl
 i5:=by kernel_rfl
 i9:=by kernel_rfl
 i37:=by kernel_rfl
 i127:=by kernel_rfl}
def Tryz.Bm:Go.Shelf.Ren:=⟨fun|219=>170|217=>174|225=>179|224=>180|267=>181|266=>185|314=>191|n=>n,fun|9=>9|3=>3|4=>4|5=>5|46=>203|146=>237|51=>234|n=>n,fun|1=>0|n=>n⟩
theorem Tryz.lays219:Go.Proofs.Lays.n219 Tryz.prog Tryz.Bm:={
 mixed:=by kernel_rfl
 f217:=Tryz.func174.trans (congrArg some (by kernel_rfl))
 f219:=Tryz.func170.trans (congrArg some (by kernel_rfl))
 f224:=Tryz.func180.trans (congrArg some (by kernel_rfl))
 f225:=Tryz.func179.trans (congrArg some (by kernel_rfl))
 f266:=Tryz.func185.trans (congrArg some (by kernel_rfl))
 f267:=Tryz.func181.trans (congrArg some (by kernel_rfl))
 f314:=Tryz.func191.trans (congrArg some (by kernel_rfl))
 t3:=Tryz.underlying3
 a3:=Tryz.isAgg3
 z3:=Tryz.sizeOf3
 v3:=Tryz.zeroValue3
 t4:=Tryz.underlying4
 a4:=Tryz.isAgg4
 z4:=Tryz.sizeOf4
 v4:=Tryz.zeroValue4
 t5:=Tryz.underlying5
 a5:=Tryz.isAgg5
 z5:=Tryz.sizeOf5
 v5:=Tryz.zeroValue5
 t9:=Tryz.underlying9
 a9:=Tryz.isAgg9
 z9:=Tryz.sizeOf9
 v9:=Tryz.zeroValue9
 t46:=Tryz.underlying203
 a46:=Tryz.isAgg203
 z46:=Tryz.sizeOf203
 v46:=Tryz.zeroValue203
 t51:=Tryz.underlying234
 a51:=Tryz.isAgg234
 z51:=Tryz.sizeOf234
 v51:=Tryz.zeroValue234
 t146:=Tryz.underlying237
 a146:=Tryz.isAgg237
 z146:=Tryz.sizeOf237
 v146:=Tryz.zeroValue237
 g1:=by kernel_rfl}
theorem clone0(s:ByteArray)(w:World)(h:s.size<=281474976710656):Calls Tryz.prog 91 #[.string s] w fun e w'=>e=.returned (.string s)/\Kp [] w w':=
 (Any.stringslite_Clone Tryz.NP s w h).mono fun _ _ ⟨he,hb⟩=>⟨he,Kp.Nr hb⟩
theorem BV(s:ByteArray)(w:World)(h:s.size<=281474976710656):Calls Tryz.prog 50 #[.string s] w fun e w'=>e=.returned (.string s)/\Kp [] w w':=by
 go_enter Tryz.func50,Tryz.ntmps50
 go_wp2_with fail;refine(clone0 s w h).mono ?_;rintro e w1 ⟨rfl,k1⟩;go_wp2_with fail;go_ret;exact⟨rfl,k1⟩
theorem JN(n : Int)(h0 : -9223372036854775808 <= n)(h1 : n <= 9223372036854775807)(w : World) (htab : Lib.TabIs Tryz.prog w "internal/strconv.uint64pow10" .u64 Lib.pow10Tab) :
  Calls Tryz.prog 108 #[.int .i64 n] w fun e w'=>e=.returned (.string ⟨(Lib.itoa n).toArray⟩)/\∃k os,w'=Sort.grow (w.drewN k) os:=Any.strconv_Itoa Tryz.NQ n h0 h1 w htab
theorem JT(s:ByteArray)(c:UInt8)(w:World):Calls Tryz.prog 170 #[.string s,.string ⟨#[c]⟩] w fun e w'=>e=.returned (.int .i64 (Lib.indexByte s.data.toList c))/\w'=w:=Any.stringslite_Index_one Tryz.lays219 s c w
end Go.Proofs.YtiahkfoojjpaaaaGreatDoor
namespace Go.Proofs.YtiahkfoojjpaaaaGreatDoor
open Go.RowKit
abbrev rdV(src:ByteArray)(ob lb nb:Nat):List Value:=[.string src,.int .i64 0,.int .i64 4,.bool false,.slice none 0 0,.slice none 0 0,.int .i64 0,.map (some ob),.slice none 0 0,.map (some lb),.map (some nb),.slice none 0 0]
def st0(ob lb nb:Nat):Sst:=⟨false,.slice none 0 0,[],.slice none 0 0,[],0,ob,lb,nb,.slice none 0 0,[],.slice none 0 0,[],[],[],[]⟩
theorem Mx{w w1 w2 w5:World}{src:ByteArray}(hsz:src.size<=2000)(k1:Kp [] w w1)(k2:Kp [] w1 w2)(ht:w2.heap[w1.heap.size]? = some (tabO opsL))(B:Bl w5 ((w2.alloc (.map #[] 0)).alloc (.map #[] 0)).heap.size (rdV src w1.heap.size w2.heap.size (w2.heap.size+1)))(k5:Kp [] ((w2.alloc (.map #[] 0)).alloc (.map #[] 0)) w5):Sr w w5 ((w2.alloc (.map #[] 0)).alloc (.map #[] 0)).heap.size src 0 (st0 w1.heap.size w2.heap.size (w2.heap.size+1)):=by
 obtain⟨b,hb⟩:∃b,b=((w2.alloc (.map #[] 0)).alloc (.map #[] 0)).heap.size:=⟨_,rfl⟩;have hb2:b=w2.heap.size+2:=by rw[hb];simp
 have klt:=aN ht;have s1:=k1.size;have ka:Kp [] w2 w5:=((Kp.alloc [] _ _).trans (Kp.alloc _ _ _)).trans k5;have hz1:(w2.alloc (.map #[] 0)).heap.size=w2.heap.size+1:=by simp
 have hz2:((w2.alloc (.map #[] 0)).alloc (.map #[] 0)).heap.size=w2.heap.size+2:=by simp
 have m2:w5.heap[w2.heap.size]? = some (.map #[] 0):=
  (k5.block _ (by omega) (by simp)).trans (((Kp.alloc [] (w2.alloc (.map #[] 0)) _).block _ (by omega) (by simp)).trans (heap_alloc_new w2 _))
 have m3:w5.heap[w2.heap.size+1]? = some (.map #[] 0):=by
  refine(k5.block _ (by omega) (by simp)).trans ?_;rw[<-hz1];exact heap_alloc_new (w2.alloc (.map #[] 0)) _
 rw[<-hb] at B ⊢;have blt:=B.lt;have hB:∀i p,srB b (st0 w1.heap.size w2.heap.size (w2.heap.size+1)) i=some p->(i=0/\p=b)\/(i=1/\p=w1.heap.size)\/(i=2/\p=w2.heap.size)\/(i=3/\p=w2.heap.size+1):=fun i p hp=>by
  rcases i with _|_|_|_|_|_|_|_|i<;>simp[srB,st0,Value.ownBlock] at hp<;>omega
 refine⟨⟨blt,QG _,hsz,B.at_ 0 _ rfl,B.at_ 1 _ rfl,B.free⟩,⟨B.at_ 2 _ rfl,B.at_ 3 _ rfl,B.at_ 4 _ rfl,B.at_ 5 _ rfl,B.at_ 6 _ rfl,B.at_ 7 _ rfl,B.at_ 8 _ rfl,B.at_ 9 _ rfl,B.at_ 10 _ rfl,B.at_ 11 _ rfl⟩,⟨k1.trans (k2.trans ka),World.ownsRow_nil _ _ _ _,World.ownsRow_nil _ _ _ _,World.ownsRow_nil _ _ _ _,World.ownsRow_nil _ _ _ _,(ka.block _ klt (by simp)).trans ht,m2,m3,(fun c hc=>by cases hc),⟨fun i p hp=>?_,fun i p hp=>?_,fun i j p hi hj=>?_⟩,(fun f hf=>by cases hf)⟩⟩
 .have:=hB i p hp;omega
 .have:=hB i p hp;omega
 .have:=hB i p hi;have:=hB j p hj;omega
structure Scr(lo hi:Nat)(w:World)(b o:Nat)(σ:Sst):Prop where
 blo:lo<=b
 bhi:b<hi
 Ob:hi<=w.heap.size
 c0:w.cell? ⟨b,o,none⟩=some (.bool σ.quiet)
 c1:w.cell? ⟨b,o+1,none⟩=some σ.vc
 c2:w.cell? ⟨b,o+2,none⟩=some σ.vn
 c3:w.cell? ⟨b,o+3,none⟩=some (.int .i64 σ.ranges)
 o4:w.ownsRow lo 93 23 σ.vc σ.cs.length σ.cs.flatten
 o5:w.ownsRow lo 9 1 σ.vn σ.ns.length (σ.ns.map .string)
 h4:∀g,σ.vc.ownBlock=some g->g<hi
 h5:∀g,σ.vn.ownBlock=some g->g<hi
 len:∀c∈σ.cs,c.length=23
 fx:∀f∈σ.fs,w.heap[f.1]? = some f.2/\lo<=f.1/\f.1<hi
section
variable {lo hi b o:Nat}{w w':World}{σ:Sst}
theorem Scr.aj{S:List Nat}(h:Scr lo hi w b o σ)(k:Kp S w w')(hS:∀x∈S,x<lo\/hi<=x):Scr lo hi w' b o σ:=by
 have hh:∀p,lo<=p->p<hi->w'.heap[p]? = w.heap[p]?:=fun p h1 h2=>k.block p (Qx h2 h.Ob) (fun e=>by have:=hS p e;omega);have hb:=hh b h.blo h.bhi;have hc:∀j,w'.cell? ⟨b,j,none⟩=w.cell? ⟨b,j,none⟩:=fun j=>World.cell?_of_block hb;exact⟨h.blo,h.bhi,QC h.Ob k.size,(hc _).trans h.c0,(hc _).trans h.c1,(hc _).trans h.c2,(hc _).trans h.c3,ag h.o4 (fun p hp=>hh p (aA h.o4 hp).1 (h.h4 p hp)),ag h.o5 (fun p hp=>hh p (aA h.o5 hp).1 (h.h5 p hp)),h.h4,h.h5,h.len,fun f hf=>⟨(hh f.1 (h.fx f hf).2.1 (h.fx f hf).2.2).trans (h.fx f hf).1,(h.fx f hf).2⟩⟩
theorem Scr.lower{lo':Nat}(h:Scr lo hi w b o σ)(hl:lo'<=lo):Scr lo' hi w b o σ:=
 ⟨QC hl h.blo,h.bhi,h.Ob,h.c0,h.c1,h.c2,h.c3,jY h.o4 hl,jY h.o5 hl,h.h4,h.h5,h.len,fun f hf=>⟨(h.fx f hf).1,QC hl (h.fx f hf).2.1,(h.fx f hf).2.2⟩⟩
theorem Sr.scr{w0:World}{src:ByteArray}{k:Nat}(h:Sr w0 w b src k σ):Scr w0.heap.size w.heap.size w b 3 σ:=
 ⟨h.r.bk.lo 0 b rfl,h.cur.lt,QD _,h.c.c3,h.c.c4,h.c.c5,h.c.c6,h.r.o4,h.r.o5,fun _ hg=>(aA h.r.o4 hg).2,fun _ hg=>(aA h.r.o5 hg).2,fun c hc=>(h.r.len c hc).1,fun f hf=>⟨(h.r.fx f hf).1,(h.r.fx f hf).2.1,aN (h.r.fx f hf).1⟩⟩
theorem Scr.copy(h:Scr lo hi w b o σ)(hw:hi=w.heap.size):Scr lo (hi+1) (w.alloc (.cells #[.bool σ.quiet,σ.vc,σ.vn,.int .i64 σ.ranges] 60)) w.heap.size 0 σ:=by
 have B:=Bl.alloc w [.bool σ.quiet,σ.vc,σ.vn,.int .i64 σ.ranges] 60;have k:=h.aj (Kp.alloc [] w (.cells #[.bool σ.quiet,σ.vc,σ.vn,.int .i64 σ.ranges] 60)) (fun _ e=>by cases e);exact⟨by have:=h.blo;have:=h.bhi;omega,by omega,by rw[hw];simp,B.at_ 0 _ rfl,B.at_ 1 _ rfl,B.at_ 2 _ rfl,B.at_ 3 _ rfl,k.o4,k.o5,fun g hg=>by have:=h.h4 g hg;omega,fun g hg=>by have:=h.h5 g hg;omega,h.len,fun f hf=>⟨(k.fx f hf).1,(k.fx f hf).2.1,by have:=(k.fx f hf).2.2;omega⟩⟩
end
theorem BW(p q r:Addr)(w:World):CallsD Tryz.prog 49 #[.pointer (some p),.pointer (some q),.pointer (some r)] .returning w fun e u' w'=>e=.returned (.tuple #[])/\u'=.returning/\w'=w:=by
 refine callsD_of_wpS Tryz.func49 rfl fun c₀ cs hu=>?_;apply wpS_seq;apply wpS_region;simp[wpOpsS,go_sem,recoverD,hu,Tryz.ntmps49,Exit.thenS];refine wpS_of_wp ?_;go_wp2
 cases c₀
 simp_all [bodyPostS,results,Tryz.results49]
theorem C8{P:Program}{w:World}{base:Nat}{t u ty e:TypeId}{i:TypeInfo}(ht:P.underlying t=some (.slice e))(hu:P.underlying u=some .string)(hi:P.info? e=some i)(hz:i.zero=some (.int .u8 0))(hsize:i.size=1)(hby:i.bytes=1){v:Value}{n:Nat}{xs:List Value}(hown:w.ownsRow base e 1 v n xs)(s:ByteArray)(h63:n+s.size<=1000000)(hbase:base<=w.heap.size):∃v' w',(Builtin.append_ #[t,u] ty #[v,.string s]).run P w=.ok v' w'/\w'.ownsRow base e 1 v' (n+s.size) (xs++Lib.byteCells s.data.toList)/\w.grownBy w' v.ownBlock/\∀g,v'.ownBlock=some g->v.ownBlock=some g\/w.heap.size<=g:=by
 obtain⟨v',w',hr,h2,h3,h4⟩:=Lib.run_append_own_string (P:=P) w base t u ty e i ht hu hi hz hsize hby v n xs hown s (by unfold maxLen;omega) (by omega) hbase;refine⟨v',w',hr,h2,h3,fun g hg=>?_⟩;rcases hown.2 with⟨rfl,rfl⟩|⟨g',cap,cur,rfl,hbg,hgc,hnc,hcm,hcs,htake⟩
 .by_cases hm:s.size=0
  .rw[h4.2 ⟨rfl,hm⟩] at hg;cases hg
  .have:=run_append_nil_string (P:=P) (ty:=ty) w t u e i (.int .u8 0) ht hu hi hz s (by omega) (by omega) (by rw[hby];omega);rw[this] at hr;injection hr with hr _;subst hr;have:w.heap.size=g:=by simpa[Value.ownBlock] using hg
   exact .inr (by omega)
 .by_cases hroom:n+s.size<=cap
  .have:=Lib.run_append_room_string (P:=P) w t u ty e i ht hu hi hsize g' n cap cur hgc s hroom (by rw[hcs];omega);rw[this] at hr;injection hr with hr _;subst hr;exact .inl hg
  .have hxl:xs.length=n:=by simpa using hown.1
   have:=Lib.run_append_grow_string (P:=P) w t u ty e i (.int .u8 0) ht hu hi hz ⟨g',0,none⟩ n cap xs (by rw[hsize];simpa using hxl) (hown.cells (g:=g') rfl) s (by omega) (by omega) (by rw[hby];exact growslice_fits (by omega) (by omega));rw[this] at hr;injection hr with hr _;subst hr;have:w.heap.size=g:=by simpa[Value.ownBlock] using hg
   exact .inr (by omega)
theorem ik{P:Program}{ops:Array Oper}{rest:List Oper}{o:Oper}{a:Act}{w:World}{Q:Exit->Act->World->Prop}(hgd:o.guard=none)(sl x:Operand)(t u:TypeId)(ho:o.op=.call { callee:=.builtin .append,args:=#[sl,x],argTypes:=#[t,u]})(base:Nat)(e:TypeId)(i:TypeInfo)(ht:P.underlying t=some (.slice e))(hu:P.underlying u=some .string)(hi:P.info? e=some i)(hz:i.zero=some (.int .u8 0))(hsize:i.size=1)(hby:i.bytes=1)(v:Value)(n:Nat)(xs:List Value)(hs:a.eval sl=v)(hown:w.ownsRow base e 1 v n xs)(s:ByteArray)(hx:a.eval x=.string s)(h63:n+s.size<=1000000)(hbase:base<=w.heap.size)(h:∀v' w',w'.ownsRow base e 1 v' (n+s.size) (xs++Lib.byteCells s.data.toList)->w.grownBy w' v.ownBlock->(∀g,v'.ownBlock=some g->v.ownBlock=some g\/w.heap.size<=g)->wpList P ops Q rest (a.put o.dst v') w'):wpList P ops Q (o::rest) a w:=by
 refine wpList_plain hgd fun K hK=>?_;obtain⟨v',w',hr,h2,h3,h4⟩:=C8 (P:=P) (ty:=o.type) ht hu hi hz hsize hby hown s h63 hbase;unfold Oper.wp;simp[execOp,ho,resolve,invoke,builtin,hs,hx,hr,Result.andThen];exact hK _ _ (h v' w' h2 h3 h4)
theorem Tryz.infoByte:(Tryz.prog.info? 5).map (fun i=>(i.zero,i.size,i.bytes))=some (some (.int .u8 0),1,1):=by kernel_rfl
structure Hd(mb c:Nat)(v:Value)(lo:Nat)(xs:List UInt8)(text:ByteArray)(w w':World)(v':Value):Prop where
 row:w'.ownsRow lo 5 1 v' (xs.length+text.size+1) (Lib.byteCells (xs++text.data.toList++[10]))
 at_:∀g,v'.ownBlock=some g->v.ownBlock=some g\/w.heap.size<=g
 kp:Kp (mb::v.ownBlock.toList) w w'
 c7:w'.cell? ⟨mb,7,none⟩=some (.int .i64 ((c+text.size+1:Nat):Int))
 cell:∀j,j≠7->w'.cell? ⟨mb,j,none⟩=w.cell? ⟨mb,j,none⟩
 free:∀j,w'.frozen? ⟨mb,j,none⟩=w.frozen? ⟨mb,j,none⟩
theorem add_v{w:World}{mb c lo:Nat}{v:Value}{xs:List UInt8}{text:ByteArray}(c7:w.cell? ⟨mb,7,none⟩=some (.int .i64 c))(f7:w.frozen? ⟨mb,7,none⟩=false)(hrow:w.ownsRow lo 5 1 v xs.length (Lib.byteCells xs))(hne:v.ownBlock≠some mb)(hlo:lo<=w.heap.size)(hc:c+text.size+1<=200000)(hx:xs.length<=c):Calls Tryz.prog 155 #[.pointer (some ⟨mb,5,none⟩),v,.string text] w fun r w'=>∃v',r=.returned v'/\Hd mb c v lo xs text w w' v':=by
 obtain⟨i0,hi,hz0,hz1,hz2⟩:=info_parts Tryz.infoByte;have HI:=hid (And.intro hi (And.intro hz0 (And.intro hz1 hz2)));clear hi hz0 hz1 hz2;have hlt:=World.block_lt_of_cell? _ _ c7;obtain⟨t1,ht1⟩:∃t1:Nat,(text.size:Int)+1=(t1:Int):=⟨text.size+1,by omega⟩;obtain⟨t2,ht2⟩:∃t2:Nat,(c:Int)+(t1:Int)=(t2:Int):=⟨c+t1,by omega⟩;have q1:=aa t1 (by omega);have q2:=aa t2 (by omega);have g1:¬200000<t2:=by omega
 have k1:Kp [mb] w (w.setCell ⟨mb,7,none⟩ (.int .i64 t2)):=Kp.setCell _ _ (by simp);have o1:Hid ((w.setCell ⟨mb,7,none⟩ (.int .i64 (t2:Int))).ownsRow lo 5 1 v xs.length (Lib.byteCells xs)):=hid (ag hrow (fun p hp=>k1.block p (aA hrow hp).2 (fun e=>hne (by simp at e;rw[<-e];exact hp))));have HLO:Hid (lo<=(w.setCell ⟨mb,7,none⟩ (.int .i64 (t2:Int))).heap.size):=hid (QC hlo k1.size);go_enter Tryz.func155,Tryz.ntmps155
 go_wp2_with (first
  | (at_builtin;refine ik rfl _ _ 49 9 rfl lo 5 i0 Tryz.underlying49 Tryz.underlying9 HI.out.1 HI.out.2.1 HI.out.2.2.1 HI.out.2.2.2 v xs.length (Lib.byteCells xs) rfl o1.out text rfl (by omega) HLO.out ?_;intro v2 w2 ho2 hg2 hl2;have HO2:=hid ho2;have HG2:=hid hg2;have HL2:=hid hl2;clear ho2 hg2 hl2)
  | (at_builtin;refine dP rfl _ _ 49 rfl lo 5 i0 (.int .u8 0) 1 1 Tryz.underlying49 HI.out.1 HI.out.2.1 HI.out.2.2.1 HI.out.2.2.2 rfl (by decide) v2 (xs.length+text.size) (Lib.byteCells xs++Lib.byteCells text.data.toList) rfl (ag HO2.out (fun p hp=>(Kp.alloc [] w2 _).block p (aA HO2.out hp).2 (by simp))) ⟨w2.heap.size,0,none⟩ 1 1 [.int .u8 10] rfl rfl (fun j u hu=>by rw[Addr.add_mid,QH];exact(Bl.alloc w2 [.int .u8 10] 5).at_ j u hu) (fun u hu=>by simp at hu;subst hu;rfl) (by unfold maxLen;omega) (by omega) (QC HLO.out (QC HG2.out.size (Kp.alloc [] w2 _).size)) (by omega) ?_;intro g3 cap3 w3 ho3 hg3 hor3))
 go_ret;have s1:(w.setCell ⟨mb,7,none⟩ (.int .i64 (t2:Int))).heap.size=w.heap.size:=by simp[World.setCell]
 have s2:=HG2.out.size;have ka:=Kp.alloc [] w2 (.cells #[.int .u8 10] 5);have sa:=ka.size;have nv2:∀p,p<w.heap.size->p∉v.ownBlock.toList->v2.ownBlock≠some p:=fun p hp hn e=>by
  rcases HL2.out p e with q|q
  .exact hn (by rw[q];simp)
  .omega
 have nmb:mb∉v.ownBlock.toList:=fun e=>hne (by simpa using e);have bk:∀p,p<w.heap.size->p∉v.ownBlock.toList->w3.heap[p]? = (w.setCell ⟨mb,7,none⟩ (.int .i64 (t2:Int))).heap[p]?:=fun p hp hn=>
  (hg3.block p (by omega) (fun e=>nv2 p hp hn (by first|exact e|exact e.symm))).trans ((ka.block p (by omega) (by simp)).trans (HG2.out.block p (by omega) (fun e=>hn (by first|(rw[e];simp)|(rw[<-e];simp)))))
 have bm:=bk mb hlt nmb;refine⟨_,rfl,⟨?_,fun g hg=>?_,⟨?_,?_,?_,?_,fun p hp hn=>?_⟩,?_,fun j hj=>?_,fun j=>?_⟩⟩
 .have:Lib.byteCells (xs++text.data.toList++[10])=Lib.byteCells xs++Lib.byteCells text.data.toList++[.int .u8 10]:=by simp[Lib.byteCells]
  rw[this];exact ho3
 .have hg':g3=g:=by simpa[Value.ownBlock] using hg
  subst hg';rcases hor3 with q|q
  .rcases HL2.out g3 q with q|q
   .exact .inl q
   .exact .inr (by omega)
  .exact .inr (by omega)
 .exact hg3.os.trans (ka.os.trans (HG2.out.os.trans k1.os))
 .exact hg3.tape.trans (ka.tape.trans (HG2.out.tape.trans k1.tape))
 .exact hg3.output.trans (ka.output.trans (HG2.out.output.trans k1.output))
 .have:=hg3.size;omega
 .have h1:p≠mb:=fun e=>hn (by simp[e]);have h2:p∉v.ownBlock.toList:=fun e=>hn (by simp at e ⊢;exact .inr e);exact(bk p hp h2).trans (k1.block p hp (by simpa using h1))
 .rw[World.cell?_of_block bm,aw _ c7]
  congr 3
  omega
 .rw[World.cell?_of_block bm];exact aq _ (fun e=>by injection e with _ e2 _;exact hj e2.symm)
 .rw[World.frozen?_of_block bm];simp
structure Mrw where
 vo:Value
 out:List UInt8
 vf:Value
 fl:List Value
 fb:List (List UInt8)
 vr:Value
 rg:List Bool
 vb:Value
 br:List ByteArray
structure Mst where
 left:ByteArray
 ahead:Bool
 ended:Bool
 count:Nat
 number:Nat
 space:ByteArray
 held:ByteArray
 aR:Value
 pc:Nat
 steps:Nat
 gU:Bool
 over:Bool
 err:Nat
 status:Nat
 r:Mrw
abbrev Fy(sb db:Nat)(s:Mst):List Value:=[.pointer (some ⟨sb,0,none⟩),.map (some db),.string s.left,.bool s.ahead,.bool s.ended,s.r.vo,s.r.vf,.int .i64 s.count,.int .i64 s.number,.string s.space,.string s.held,s.r.vr,s.aR,.int .i64 s.pc,.int .i64 s.steps,.bool s.gU,s.r.vb,.bool s.over,.int .i64 s.err,.int .i64 s.status]
def maB(mb db:Nat)(r:Mrw):Bk
 | 0=>some mb
 | 1=>some db
 | 2=>r.vo.ownBlock
 | 3=>r.vf.ownBlock
 | 4=>r.vr.ownBlock
 | 5=>r.vb.ownBlock
 | n+6=>(r.fl[n]?).bind Value.ownBlock
structure MacR(w0 w:World)(mb db:Nat)(r:Mrw):Prop where
 kp:Kp [] w0 w
 o2:w.ownsRow w0.heap.size 5 1 r.vo r.out.length (Lib.byteCells r.out)
 o3:w.ownsRow w0.heap.size 49 1 r.vf r.fl.length r.fl
 ofl:∀(i:Nat) (v:Value),r.fl[i]? = some v->∃bs:List UInt8,r.fb[i]? = some bs/\w.ownsRow w0.heap.size 5 1 v bs.length (Lib.byteCells bs)
 o4:w.ownsRow w0.heap.size 4 1 r.vr r.rg.length (r.rg.map .bool)
 o5:w.ownsRow w0.heap.size 9 1 r.vb r.br.length (r.br.map .string)
 md:w.heap[db]? = some (tabO iZ)
 bk:Bk.ok w0.heap.size w.heap.size (maB mb db r)
 fll:r.fb.length=r.fl.length
structure Mac(w0 w:World)(mb sb db:Nat)(s:Mst):Prop where
 b:Bl w mb (Fy sb db s)
 r:MacR w0 w mb db s.r
structure Gr(mb db:Nat)(w:World)(r:Mrw)(w':World)(r':Mrw):Prop where
 size:w.heap.size<=w'.heap.size
 from_:∀i p,maB mb db r' i=some p->(∃j,maB mb db r j=some p)\/w.heap.size<=p
 same:∀p,p<w.heap.size->(∀i,maB mb db r i≠some p)->w'.heap[p]? = w.heap[p]?
section
variable {w0 w w' w2:World}{mb sb db:Nat}{s s':Mst}{r r' r2:Mrw}
theorem Gr.refl(mb db:Nat)(w:World)(r:Mrw):Gr mb db w r w r:=⟨QD _,fun i _ h=>.inl ⟨i,h⟩,fun _ _ _=>rfl⟩
theorem Gr.trans(h:Gr mb db w r w' r')(k:Gr mb db w' r' w2 r2):Gr mb db w r w2 r2:=by
 refine⟨QC h.size k.size,fun i p hp=>?_,fun p hp hn=>?_⟩
 .rcases k.from_ i p hp with⟨j,hj⟩|q
  .exact h.from_ j p hj
  .exact .inr (QC h.size q)
 .refine(k.same p (Qx hp h.size) (fun i e=>?_)).trans (h.same p hp hn);rcases h.from_ i p e with⟨j,hj⟩|q
  .exact hn j hj
  .omega
theorem Gr.dj{S:List Nat}(k:Kp S w w')(hS:∀x∈S,∃i,maB mb db r i=some x):Gr mb db w r w' r:=
 ⟨k.size,fun i _ h=>.inl ⟨i,h⟩,fun p hp hn=>k.block p hp (fun e=>by obtain⟨i,hi⟩:=hS p e;exact hn i hi)⟩
theorem Gr.bl{x:Nat}{cv:List Value}(h:Gr mb db w r w' r')(B:Bl w x cv)(hx:∀i,maB mb db r i≠some x):Bl w' x cv:=by
 have e:=h.same x B.lt hx;exact⟨Qx B.lt h.size,fun j u hu=>(World.cell?_of_block e).trans (B.at_ j u hu),fun j=>(World.frozen?_of_block e).trans (B.free j)⟩
theorem MacR.aj{S:List Nat}(h:MacR w0 w mb db r)(k:Kp S w w')(hS:∀x∈S,w0.heap.size<=x/\∀i,0<i->maB mb db r i≠some x):MacR w0 w' mb db r:=by
 have hh:∀i p,0<i->maB mb db r i=some p->w'.heap[p]? = w.heap[p]?:=fun i p hi hp=>k.block p (h.bk.hi i p hp) (fun e=>(hS p e).2 i hi hp);refine⟨⟨k.os.trans h.kp.os,k.tape.trans h.kp.tape,k.output.trans h.kp.output,QC h.kp.size k.size,fun j hj _=>(k.block j (Qx hj h.kp.size) (fun e=>by have:=(hS j e).1;omega)).trans (h.kp.block j hj (by simp))⟩,ag h.o2 (fun p hp=>hh 2 p (by omega) hp),ag h.o3 (fun p hp=>hh 3 p (by omega) hp),fun i v hv=>?_,ag h.o4 (fun p hp=>hh 4 p (by omega) hp),ag h.o5 (fun p hp=>hh 5 p (by omega) hp),(hh 1 _ (by omega) rfl).trans h.md,h.bk.grow k.size,h.fll⟩;obtain⟨bs,h1,h2⟩:=h.ofl i v hv;exact⟨bs,h1,ag h2 (fun p hp=>hh (i+6) p (by omega) (show(r.fl[i]?).bind Value.ownBlock=some p by rw[hv];exact hp))⟩
theorem Mac.JD(h:Mac w0 w mb sb db s)(i:Nat)(hi:0<i):maB mb db s.r i≠some mb:=fun e=>by have:=h.r.bk.ne i 0 mb e rfl;omega
theorem Mac.other{S:List Nat}(h:Mac w0 w mb sb db s)(k:Kp S w w')(hS:∀x∈S,w0.heap.size<=x/\∀i,maB mb db s.r i≠some x):Mac w0 w' mb sb db s:=
 ⟨h.b.aj k (fun e=>(hS mb e).2 0 rfl),h.r.aj k (fun x hx=>⟨(hS x hx).1,fun i _=>(hS x hx).2 i⟩)⟩
theorem Mac.aj(h:Mac w0 w mb sb db s)(k:Kp [] w w'):Mac w0 w' mb sb db s:=h.other k (fun _ e=>by cases e)
theorem Mac.eh(h:Mac w0 w mb sb db s){x:Nat}(hx:w.heap.size<=x):w0.heap.size<=x/\∀i,maB mb db s.r i≠some x:=
 ⟨QC h.r.kp.size hx,fun i e=>by have:=h.r.bk.hi i x e;omega⟩
theorem Mac.set(h:Mac w0 w mb sb db s)(j:Nat)(v:Value)(hj:j<20)(hr:s'.r=s.r)(hv:(Fy sb db s).set j v=Fy sb db s'):Mac w0 (w.setCell ⟨mb,j,none⟩ v) mb sb db s':=by
 refine⟨?_,?_⟩
 .rw[<-hv];exact h.b.set j v hj
 .rw[hr]
  exact h.r.aj (S:=[mb]) (Kp.setCell _ _ (by simp)) (fun x hx=>by
   simp at hx;subst hx
   exact⟨h.r.bk.lo 0 x rfl,fun i hi=>h.JD i hi⟩)
theorem Gr.set(w:World)(r:Mrw)(j:Nat)(v:Value):Gr mb db w r (w.setCell ⟨mb,j,none⟩ v) r:=Gr.dj (S:=[mb]) (Kp.setCell _ _ (by simp)) (fun x hx=>by simp at hx;subst hx;exact⟨0,rfl⟩)
theorem PM(mb db:Nat)(r:Mrw)(v:Value)(o:List UInt8):maB mb db { r with vo:=v,out:=o}=fun j=>if j=2 then v.ownBlock else maB mb db r j:=by
 funext i
 rcases i with _|_|_|_|_|_|i<;>simp[maB]
theorem Mac.told{w1:World}{v':Value}{text:ByteArray}(h:Mac w0 w mb sb db s)(A:Hd mb s.count s.r.vo w0.heap.size s.r.out text w w1 v'):Mac w0 (w1.setCell ⟨mb,5,none⟩ v') mb sb db { s with count:=s.count+text.size+1,r:={ s.r with vo:=v',out:=s.r.out++text.data.toList++[10]}} /\
   Gr mb db w s.r (w1.setCell ⟨mb,5,none⟩ v') { s.r with vo:=v',out:=s.r.out++text.data.toList++[10]}:=by
 have mlt:=h.b.lt;have hS:∀x∈mb::s.r.vo.ownBlock.toList,∃i,maB mb db s.r i=some x:=fun x hx=>by
  rcases List.mem_cons.1 hx with q|q
  .exact⟨0,by rw[q];rfl⟩
  .exact⟨2,by simpa[maB] using q⟩
 have ks:Kp [mb] w1 (w1.setCell ⟨mb,5,none⟩ v'):=Kp.setCell _ _ (by simp);have kk:Kp (mb::s.r.vo.ownBlock.toList) w (w1.setCell ⟨mb,5,none⟩ v'):=A.kp.trans (ks.mono (by simp))
 have hh:∀i p,i≠0->i≠2->maB mb db s.r i=some p->(w1.setCell ⟨mb,5,none⟩ v').heap[p]? = w.heap[p]?:=fun i p h0 h2 hp=>kk.block p (h.r.bk.hi i p hp) (fun e=>by
  rcases List.mem_cons.1 e with q|q
  .exact h0 (h.r.bk.ne i 0 p hp (by rw[q];rfl))
  .exact h2 (h.r.bk.ne i 2 p hp (by simpa[maB] using q)))
 have vne:v'.ownBlock≠some mb:=fun e=>by
  rcases A.at_ mb e with q|q
  .have:=h.r.bk.ne 2 0 mb q rfl;omega
  .omega
 have B1:Bl w1 mb ((Fy sb db s).set 7 (.int .i64 ((s.count+text.size+1:Nat):Int))):=by
  refine⟨Qx mlt A.kp.size,fun j u hu=>?_,fun j=>(A.free j).trans (h.b.free j)⟩;by_cases e:j=7
  .subst e;rw[QI (by show 7<20;omega)] at hu;rw[A.c7,hu]
  .rw[QL (Ne.symm e)] at hu;exact(A.cell j e).trans (h.b.at_ j u hu)
 have lo0:=h.r.kp.size;have bk':Bk.ok w0.heap.size (w1.setCell ⟨mb,5,none⟩ v').heap.size (maB mb db { s.r with vo:=v',out:=s.r.out++text.data.toList++[10]}):=by
  rw[PM]
  cases hv:v'.ownBlock with
  | none=>
   refine⟨fun i p hp=>?_,fun i p hp=>?_,fun i j p hi hj=>?_⟩
   .split at hp
    .cases hp
    .exact h.r.bk.lo i p hp
   .split at hp
    .cases hp
    .exact Qx (h.r.bk.hi i p hp) kk.size
   .split at hi<;>split at hj
    .omega
    .cases hi
    .cases hj
    .exact h.r.bk.ne i j p hi hj
  | some g=>
   refine h.r.bk.upd 2 g kk.size lo0 ?_;rcases A.at_ g hv with q|q
   .exact .inl q
   .exact .inr ⟨q,Qx (aA A.row hv).2 ks.size⟩
 refine⟨⟨B1.set 5 v' (by show 5<20;omega),⟨?_,?_,ag h.r.o3 (fun p hp=>hh 3 p (by omega) (by omega) hp),fun i v hv=>?_,ag h.r.o4 (fun p hp=>hh 4 p (by omega) (by omega) hp),ag h.r.o5 (fun p hp=>hh 5 p (by omega) (by omega) hp),(hh 1 _ (by omega) (by omega) rfl).trans h.r.md,bk',h.r.fll⟩⟩,⟨kk.size,fun i p hp=>?_,fun p hp hn=>kk.block p hp (fun e=>by obtain⟨i,hi⟩:=hS p e;exact hn i hi)⟩⟩
 .refine⟨kk.os.trans h.r.kp.os,kk.tape.trans h.r.kp.tape,kk.output.trans h.r.kp.output,QC lo0 kk.size,fun j hj _=>(kk.block j (Qx hj lo0) (fun e=>?_)).trans (h.r.kp.block j hj (by simp))⟩;obtain⟨i,hi⟩:=hS j e;have:=h.r.bk.lo i j hi;omega
 .have hl:(s.r.out++text.data.toList++[10]).length=s.r.out.length+text.size+1:=by
   rw[Qy,Qy];rfl
  show World.ownsRow _ _ _ 1 v' (s.r.out++text.data.toList++[10]).length (Lib.byteCells (s.r.out++text.data.toList++[10]));rw[hl];exact ag A.row (fun p hp=>ks.block p (aA A.row hp).2 (fun e=>vne (by simp at e;rw[<-e];exact hp)))
 .obtain⟨bs,h1,h2⟩:=h.r.ofl i v hv;exact⟨bs,h1,ag h2 (fun p hp=>hh (i+6) p (by omega) (by omega) (show(s.r.fl[i]?).bind Value.ownBlock=some p by rw[hv];exact hp))⟩
 .rw[PM] at hp;replace hp:(if i=2 then v'.ownBlock else maB mb db s.r i)=some p:=hp;split at hp
  .rcases A.at_ p hp with q|q
   .exact .inl ⟨2,q⟩
   .exact .inr q
  .exact .inl ⟨i,hp⟩
end
structure Pst where
 left:ByteArray
 ahead:Bool
 ended:Bool
 count:Nat
 number:Nat
 space:ByteArray
 held:ByteArray
 aR:Value
 pc:Nat
 steps:Nat
 gU:Bool
 over:Bool
 err:Nat
 status:Nat
 out:List UInt8
 fb:List (List UInt8)
 rg:List Bool
 br:List ByteArray
def Mst.p(s:Mst):Pst:=⟨s.left,s.ahead,s.ended,s.count,s.number,s.space,s.held,s.aR,s.pc,s.steps,s.gU,s.over,s.err,s.status,s.r.out,s.r.fb,s.r.rg,s.r.br⟩
def di(w0:World)(mb sb db:Nat)(w:World)(s:Mst)(w':World)(p':Pst):Prop:=∃s',s'.p=p'/\Mac w0 w' mb sb db s'/\Gr mb db w s.r w' s'.r
section
variable {w0 w w' w2:World}{mb sb db:Nat}{s s':Mst}{p p':Pst}
theorem di.refl(h:Mac w0 w mb sb db s):di w0 mb sb db w s w s.p:=⟨s,rfl,h,Gr.refl _ _ _ _⟩
theorem di.set(h:Mac w0 w mb sb db s)(j:Nat)(v:Value)(hj:j<20)(hr:s'.r=s.r)(hv:(Fy sb db s).set j v=Fy sb db s'):di w0 mb sb db w s (w.setCell ⟨mb,j,none⟩ v) s'.p:=by
 refine⟨s',rfl,h.set j v hj hr hv,?_⟩;rw[hr];exact Gr.set _ _ _ _
theorem di.aj(g:di w0 mb sb db w s w' p)(k:Kp [] w' w2):di w0 mb sb db w s w2 p:=by
 obtain⟨s',hp,hm,hg⟩:=g;exact⟨s',hp,hm.aj k,hg.trans (Gr.dj k (fun _ e=>by cases e))⟩
theorem di.pre{w1:World}(k:Kp [] w w1)(g:di w0 mb sb db w1 s w' p):di w0 mb sb db w s w' p:=by
 obtain⟨s',hp,hm,hg⟩:=g;exact⟨s',hp,hm,(Gr.dj (r:=s.r) k (fun _ e=>by cases e)).trans hg⟩
theorem PN(mb db:Nat)(r:Mrw):maB mb db { r with vb:=.slice none 0 0,br:=[]}=fun j=>if j=5 then none else maB mb db r j:=by
 funext i
 rcases i with _|_|_|_|_|_|i<;>simp[maB,Value.ownBlock]
theorem Mac.noBr(h:Mac w0 w mb sb db s):di w0 mb sb db w s (w.setCell ⟨mb,16,none⟩ (.slice none 0 0)) { s.p with br:=[]}:=by
 have k:Kp [mb] w (w.setCell ⟨mb,16,none⟩ (.slice none 0 0)):=Kp.setCell _ _ (by simp)
 have r:=h.r.aj k (fun x hx=>by
  simp at hx;subst hx
  exact⟨h.r.bk.lo 0 x rfl,fun i hi=>h.JD i hi⟩)
 refine⟨{ s with r:={ s.r with vb:=.slice none 0 0,br:=[]}},rfl,⟨h.b.set 16 _ (by show 16<20;omega),⟨r.kp,r.o2,r.o3,r.ofl,r.o4,World.ownsRow_nil _ _ _ _,r.md,?_,r.fll⟩⟩,⟨k.size,fun i p hp=>?_,fun p hp hn=>k.block p hp (fun e=>by simp at e;exact hn 0 (by rw[e];rfl))⟩⟩
 .show Bk.ok _ _ (maB mb db { s.r with vb:=.slice none 0 0,br:=[]});rw[PN];refine⟨fun i p hp=>?_,fun i p hp=>?_,fun i j p hi hj=>?_⟩
  .split at hp
   .cases hp
   .exact r.bk.lo i p hp
  .split at hp
   .cases hp
   .exact r.bk.hi i p hp
  .split at hi<;>split at hj
   .omega
   .cases hi
   .cases hj
   .exact r.bk.ne i j p hi hj
 .replace hp:maB mb db { s.r with vb:=.slice none 0 0,br:=[]} i=some p:=hp;rw[PN] at hp;replace hp:(if i=5 then none else maB mb db s.r i)=some p:=hp;split at hp
  .cases hp
  .exact .inl ⟨i,hp⟩
end
theorem gR{P:Program}{w:World}{a:Addr}{u v:Value}(hu:w.cell? a=some u)(hf:w.frozen? a=false)(h1:v.oneCell'=true):(store a v).run P w=.ok () (w.setCell a v):=by
 rw[run_store P w a v _ h1];simp[hu,hf]
section
variable {w0 w w' w2:World}{mb sb db lo hi:Nat}{s s':Mst}{p p':Pst}{σ:Sst}
abbrev bwV:Value:=.func (.func 41) #[] #[]
def Pst.begin(sp:ByteArray)(p:Pst):Pst:={ p with space:=sp,pc:=0,gU:=false}
def Pst.Ll(l:ByteArray)(p:Pst):Pst:={ p with steps:=0,space:=l,pc:=0,gU:=false}
theorem Lk{sp:ByteArray}(h:Mac w0 w mb sb db s):Calls Tryz.prog 80 #[.pointer (some ⟨mb,0,none⟩),.string sp] w fun r w'=>r=.returned (.tuple #[])/\di w0 mb sb db w s w' (s.p.begin sp):=by
 have c9:=h.b.at_ 9 _ rfl;have f9:=h.b.free 9;have c13:=h.b.at_ 13 _ rfl;have f13:=h.b.free 13;have c15:=h.b.at_ 15 _ rfl;have f15:=h.b.free 15;go_enter Tryz.func80,Tryz.ntmps80
 go_wp2_with fail;go_end0;have m1:=h.set (s':={ s with space:=sp}) 9 (.string sp) (by omega) rfl rfl;have m2:=m1.set (s':={ s with space:=sp,pc:=0}) 13 (.int .i64 0) (by omega) rfl rfl;have m3:=m2.set (s':={ s with space:=sp,pc:=0,gU:=false}) 15 (.bool false) (by omega) rfl rfl;exact⟨rfl,_,rfl,m3,(Gr.set _ _ _ _).trans ((Gr.set _ _ _ _).trans (Gr.set _ _ _ _))⟩
theorem Cb{sp:ByteArray}(h:Mac w0 w mb sb db s):Calls Tryz.prog 41 #[.pointer (some ⟨mb,0,none⟩),.string sp] w fun r w'=>r=.returned (.tuple #[])/\di w0 mb sb db w s w' (s.p.Ll sp):=by
 have c14:=h.b.at_ 14 _ rfl;have f14:=h.b.free 14;have m1:=h.set (s':={ s with steps:=0}) 14 (.int .i64 0) (by omega) rfl rfl;go_enter Tryz.func41,Tryz.ntmps41
 go_wp2_with fail;refine(Lk m1).mono ?_;rintro r w1 ⟨rfl,s1,e1,m1,gr1⟩;go_wp2_with fail;go_end0;exact⟨rfl,s1,e1,m1,(Gr.set _ _ _ _).trans gr1⟩
end
def ba(l:List UInt8):ByteArray:=⟨l.toArray⟩
theorem eN(l:List UInt8):(ba l).data.toList=l:=by simp[ba]
theorem ay(l:List UInt8):(ba l).size=l.length:=by simp[ba,ByteArray.size]
theorem Ag(s:ByteArray):ba s.data.toList=s:=by simp[ba]
theorem Ec{s:ByteArray}{l:List UInt8}(h:s.data.toList=l):s=ba l:=by rw[<-h,Ag]
theorem tN(a b:List UInt8):ba a++ba b=ba (a++b):=Ec (by rw[ByteArray.data_append,Array.toList_append,eN,eN])
theorem fu(l:List UInt8)(a b:Nat):(ba l).extract a b=ba ((l.take b).drop a):=Ec (by
 rw[RS]
 simp[ba,List.drop_take])
theorem DN:∀(L R:List UInt8),(10:UInt8)∉L->Lib.indexByte (L++10::R) 10=(L.length:Int)
 | [],R,_=>by simp[Lib.indexByte]
 | b::L,R,h=>by
  have h1:(b==(10:UInt8))=false:=by rw[Qz];exact fun e=>h (by simp[e])
  have ih:=DN L R (fun q=>h (by simp[q]));rw[QS,Lib.indexByte,h1,Qw (by simp),ih];rw[Qw (by rw[beq_iff_eq];omega)];simp
theorem yZ:∀(L:List UInt8),(10:UInt8)∉L->Lib.indexByte L 10 = -1
 | [],_=>rfl
 | b::L,h=>by
  have h1:(b==(10:UInt8))=false:=by rw[Qz];exact fun e=>h (by simp[e])
  have ih:=yZ L (fun q=>h (by simp[q]));rw[Lib.indexByte,h1,Qw (by simp),ih]
  rfl
theorem cut1{s:ByteArray}(w:World)(h:Lib.indexByte s.data.toList 10 = -1):Calls Tryz.prog 157 #[.string s,.string ⟨#[10]⟩] w fun r w'=>r=.returned (.tuple #[.string s,.string ⟨#[]⟩,.bool false])/\w'=w:=by
 have HX:=hid (JT s 10 w);have H:=hid h;clear h;go_enter Tryz.func157,Tryz.ntmps157
 go_wp2_with fail;refine HX.out.mono ?_;rintro r w1 ⟨rfl,rfl⟩;rw[H.out];go_wp2_with fail;go_ret3
 exact⟨rfl,rfl⟩
theorem cut_no{L:List UInt8}(w:World)(h:(10:UInt8)∉L):Calls Tryz.prog 117 #[.string (ba L),.string ⟨#[10]⟩] w fun r w'=>r=.returned (.tuple #[.string (ba L),.string ⟨#[]⟩,.bool false])/\Kp [] w w':=by
 have H:=hid (cut1 (s:=ba L) w (by rw[eN];exact yZ L h));go_enter Tryz.func117,Tryz.ntmps117
 go_wp2_with fail;refine H.out.mono ?_;rintro r w1 ⟨rfl,rfl⟩;go_wp2_with fail;go_ret3
 exact⟨rfl,Kp.refl _ _⟩
section
variable {w0 w w' w2:World}{mb sb db lo hi:Nat}{s s':Mst}
theorem Az(h:Mac w0 w mb sb db s)(hw:s.aR=.nilFunc):Calls Tryz.prog 82 #[.pointer (some ⟨mb,0,none⟩)] w fun r w'=>r=.returned (.bool true)/\di w0 mb sb db w s w' s.p:=by
 have c12:=h.b.at_ 12 _ rfl;rw[hw] at c12;have hbo:∀w,(binOp BinOp.eql 103 .nilFunc .nilFunc).run Tryz.prog w=.ok (.bool true) w:=fun _=>by kernel_rfl
 go_enter Tryz.func82,Tryz.ntmps82
 go_wp2_with fail;go_ret;exact⟨rfl,di.refl h⟩
end
section
variable {w0 w w' w2:World}{mb sb db lo hi:Nat}{s s':Mst}{σ:Sst}
theorem J8:∀(cs:List (List Value)),(∀c∈cs,c.length=23)->∀(i j:Nat) (c:List Value),cs[i]? = some c->j<23->cs.flatten[i*23+j]? = c[j]?
 | [],_,i,j,c,h,_=>by simp at h
 | d::cs,hl,0,j,c,h,hj=>by
  injection h with h;subst h;rw[Rf,Sb,QH,Q5 (by rw[hl d (by simp)];exact hj)]
 | d::cs,hl,i+1,j,c,h,hj=>by
  have hd:=hl d (by simp);rw[Rf,QU (by rw[hd];omega),hd,show(i+1)*23+j-23=i*23+j by omega];exact J8 cs (fun c hc=>hl c (by simp[hc])) i j c (by simpa using h) hj
theorem Scr.cmd(h:Scr lo hi w sb 0 σ){i:Nat}{c:List Value}(hc:σ.cs[i]? = some c):∃g cap,σ.vc=.slice (some ⟨g,0,none⟩) σ.cs.length cap/\∀j u,c[j]? = some u->w.cell? ⟨g,i*23+j,none⟩=some u:=by
 have hi:=(List.getElem?_eq_some_iff.1 hc).1;rcases h.o4.2 with⟨_,q⟩|⟨g,cap,cur,q1,q2,q3,q4⟩
 .omega
 .refine⟨g,cap,q1,fun j u hu=>?_⟩;have hj:j<23:=by
   have:=(List.getElem?_eq_some_iff.1 hu).1;rw[h.len c (QM hc)] at this;exact this
  have o:=h.o4;rw[q1] at o;rw[o.cellAt (i*23+j) (by have:(i+1)*23<=σ.cs.length*23:=QN _ hi;omega),J8 σ.cs h.len i j c hc hj];exact hu
end
section
variable {w0 w w' w2:World}{mb sb db lo hi:Nat}{s s':Mst}{σ:Sst}
theorem jw{g o c:Nat}{A:Option Addr}(h:Mac w0 w mb sb db s)(h0:w.cell? ⟨g,o,none⟩=some (.slice A 0 c)):Calls Tryz.prog 129 #[.pointer (some ⟨mb,0,none⟩),.pointer (some ⟨g,o,none⟩)] w fun r w'=>r=.returned (.bool true)/\di w0 mb sb db w s w' s.p:=by
 go_enter Tryz.func129,Tryz.ntmps129
 go_wp2_with fail;go_ret;exact⟨rfl,di.refl h⟩
end
section
variable {P:Program}{md:Region.Mode}{ops:Array Oper}{Q:Exit->Act->World->Prop}{S:World->Prop}{z:Nat}
theorem nX{i j k:Nat}{o o' o'':Oper}{fuel:Nat}{listed:Array Bool}{a:Act}{w:World}(hr:Region.ready md ops listed=[i,j,k])(ho:ops[i]? = some o)(ho':ops[j]? = some o')(ho'':ops[k]? = some o'')(h:∀K:Act->World->Prop,Shut (∀a' w',(i=z\/S w')->dZ P md ops Q S z fuel (listed.setIfInBounds i true) a' w'->K a' w')->if Region.wanted o (yielded ops a.tmps)=true then Oper.wp P o a w K Q else K (a.put o.dst undef) w)(h':∀K:Act->World->Prop,Shut (∀a' w',(j=z\/S w')->dZ P md ops Q S z fuel (listed.setIfInBounds j true) a' w'->K a' w')->if Region.wanted o' (yielded ops a.tmps)=true then Oper.wp P o' a w K Q else K (a.put o'.dst undef) w)(h'':∀K:Act->World->Prop,Shut (∀a' w',(k=z\/S w')->dZ P md ops Q S z fuel (listed.setIfInBounds k true) a' w'->K a' w')->if Region.wanted o'' (yielded ops a.tmps)=true then Oper.wp P o'' a w K Q else K (a.put o''.dst undef) w):dZ P md ops Q S z (fuel+1) listed a w:=by
 refine⟨fun h0=>(by rw[hr] at h0;cases h0),fun q hq=>?_⟩;rw[hr] at hq;rcases List.mem_cons.1 hq with e|hq
 .subst e;exact wpOp_step ho (fun K hK=>h K (fun a' w' h1 h2=>hK a' w' ⟨h1,h2⟩))
 .rcases List.mem_cons.1 hq with e|hq
  .subst e;exact wpOp_step ho' (fun K hK=>h' K (fun a' w' h1 h2=>hK a' w' ⟨h1,h2⟩))
  .have e:=List.mem_singleton.1 hq;subst e;exact wpOp_step ho'' (fun K hK=>h'' K (fun a' w' h1 h2=>hK a' w' ⟨h1,h2⟩))
end
theorem ym{P:Program}{ops:Array Oper}{o:Oper}{a:Act}{w:World}{K:Act->World->Prop}{Q:Exit->Act->World->Prop}{E:Prop}(hg:o.guard=none)(t:TypeId)(x y:Operand)(ho:o.op=.makeSlice t x y)(n:Nat)(hx:a.eval x=.int .i64 n)(hy:a.eval y=.int .i64 n)(e:TypeId)(i:TypeInfo)(z:Value)(ht:P.underlying t=some (.slice e))(hi:P.info? e=some i)(hz:i.zero=some z)(hs:i.size=1)(hb:i.bytes<=100)(hn:n<=100000)(h:∀w',w'.heap[w.heap.size]? = some (.cells (madeCells z.cells n) e)->Kp [] w w'->K (a.put o.dst (.slice (some ⟨w.heap.size,0,none⟩) n n)) w'):if Region.wanted o (yielded ops a.tmps)=true then Oper.wp P o a w K Q else E:=by
 have hw:Region.wanted o (yielded ops a.tmps)=true:=by simp[Region.wanted,hg]
 rw[QB hw];have hbn:(i.bytes:Int)*(n:Int)<=281474976710656:=by
  have h1:i.bytes*n<=100*100000:=RI hb hn;have h2:((i.bytes*n:Nat):Int)<=((100*100000:Nat):Int):=by omega
  rw[Int.natCast_mul] at h2;omega
 have hr:=run_make (P:=P) w t e i z ht hi hz .i64 .i64 n n (by omega) (by omega) hbn (by omega);simp only[Su,hs,Nat.mul_one] at hr;have hh:=h (w.alloc (.cells (madeCells z.cells n) e)) (heap_alloc_new w _) (Kp.alloc _ _ _);unfold Oper.wp;simp[execOp,ho,hx,hy,hr,Result.andThen];exact hh
def oh(ah:Bool)(fb nf rb nr:Nat):Mst:=⟨⟨#[]⟩,ah,false,0,0,⟨#[]⟩,⟨#[]⟩,bwV,0,0,false,false,0,0,⟨.slice none 0 0,[],.slice (some ⟨fb,0,none⟩) nf nf,List.replicate nf (.slice none 0 0),List.replicate nf [],.slice (some ⟨rb,0,none⟩) nr nr,List.replicate nr false,.slice none 0 0,[]⟩⟩
theorem mac_new{w W:World}{db fb rb nf nr sb:Nat}{ah:Bool}(k:Kp [] w W)(fd:W.heap[db]? = some (tabO iZ))(ff:W.heap[fb]? = some (.cells (madeCells #[.slice none 0 0] nf) 49))(fr:W.heap[rb]? = some (.cells (madeCells #[.bool false] nr) 4))(ld:w.heap.size<=db)(lf:w.heap.size<=fb)(lr:w.heap.size<=rb)(ndf:db≠fb)(ndr:db≠rb)(nfr:fb≠rb)(hf:nf<=100000)(hr:nr<=100000):Mac w (W.alloc (.cells (Fy sb db (oh ah fb nf rb nr)).toArray 106)) W.heap.size sb db (oh ah fb nf rb nr):=by
 have ka:=Kp.alloc [] W (.cells (Fy sb db (oh ah fb nf rb nr)).toArray 106);have dl:=aN fd;have fl:=aN ff;have rl:=aN fr;have ks:=k.size;have fd':=(ka.block db dl (by simp)).trans fd;have ff':=(ka.block fb fl (by simp)).trans ff;have fr':=(ka.block rb rl (by simp)).trans fr;have za:(W.alloc (.cells (Fy sb db (oh ah fb nf rb nr)).toArray 106)).heap.size=W.heap.size+1:=by simp
 have hB:∀i p,maB W.heap.size db (oh ah fb nf rb nr).r i=some p->(i=0/\p=W.heap.size)\/(i=1/\p=db)\/(i=3/\p=fb)\/(i=4/\p=rb):=fun i p hp=>by
  rcases i with _|_|_|_|_|_|i
  .simp[maB] at hp;omega
  .simp[maB] at hp;omega
  .simp[maB,oh,Value.ownBlock] at hp
  .simp[maB,oh,Value.ownBlock] at hp;omega
  .simp[maB,oh,Value.ownBlock] at hp;omega
  .simp[maB,oh,Value.ownBlock] at hp
  .exfalso;simp only[maB,oh] at hp;rw[Rj] at hp;split at hp
   .simp[Value.ownBlock] at hp
   .simp at hp
 refine⟨Bl.alloc W _ _,⟨k.trans ka,World.ownsRow_nil _ _ _ _,⟨by simp[oh],.inr ⟨fb,nf,_,by simp[oh],lf,ff',by simp[oh],by unfold maxLen;omega,by rw[size_madeCells];omega,by rw[toList_madeCells_one];simp[oh]⟩⟩,fun i v hv=>?_,⟨by simp[oh],.inr ⟨rb,nr,_,by simp[oh],lr,fr',by simp[oh],by unfold maxLen;omega,by rw[size_madeCells];omega,by rw[toList_madeCells_one];simp[oh]⟩⟩,World.ownsRow_nil _ _ _ _,fd',⟨fun i p hp=>?_,fun i p hp=>?_,fun i j p hi hj=>?_⟩,by simp[oh]⟩⟩
 .simp only[oh] at hv ⊢;rw[Rj] at hv;split at hv
  .rename_i hlt;injection hv with hv;subst hv;exact⟨[],by rw[Rj,QB hlt],World.ownsRow_nil _ _ _ _⟩
  .cases hv
 .have:=hB i p hp;omega
 .have:=hB i p hp;omega
 .have:=hB i p hi;have:=hB j p hj;omega
