import Derived.Test.YtiahkfoojjpaaaaGreatDoorT02
import Derived.Test.YtiahkfoojjpaaaaGreatDoorT05
import Derived.Shelf.Small.Strs
import Derived.Shelf.Strconv.Clone
import Derived.Shelf.Strconv.Itoa3
import Derived.Shelf.Strings.Search2
set_option maxRecDepth 100000
set_option maxHeartbeats 16000000
set_option linter.all false
namespace Go.Proofs.YtiahkfoojjpaaaaGreatDoor
open Go.RowKit
theorem DU (p q r:Addr) (w:World) :
  CallsD Tryz.prog 86 #[.pointer (some p),.pointer (some q),.pointer (some r)] .returning w fun e u' w'=>e=.returned (.tuple #[])/\u'=.returning/\w'=w:=by
 refine callsD_of_wpS Tryz.func86 rfl fun c₀ cs hu=>?_;apply wpS_seq;apply wpS_region;simp [wpOpsS,go_sem,recoverD,hu,Tryz.ntmps86,Exit.thenS];refine wpS_of_wp ?_;go_wp2
 cases c₀
 simp_all [bodyPostS,results,Tryz.results86]
theorem yH {src:ByteArray} {groups n:Nat} {bg:Int} {deepest:Nat} {xs:List Value} {w:World} {a:Nat} (ha:w.cell? ⟨a,0,none⟩=some (.string src)) (hw:Nm w) (hs:src.size<=100) (hn:0 < n) (hp:Reads src 0 groups n bg deepest xs) :
  Calls Tryz.prog 45 #[.pointer (some ⟨a,0,none⟩)] w fun e w'=>∃ p,e=.returned (.pointer (some ⟨p,0,none⟩))/\PtR w.heap.size w' p n bg groups deepest xs/\Kp [] w w':=by
 go_enter Tryz.func45,Tryz.ntmps45
 go_wp2_with fail;refine (Bh (fr:=0) hw (by omega) (by omega) (by omega) hn hp).mono ?_;rintro e w1 ⟨p,rfl,pt,k1⟩;go_wp2_with fail;go_ret;exact ⟨p,rfl,pt,k1⟩
theorem DS {src:ByteArray} {groups n:Nat} {bg:Int} {deepest:Nat} {xs:List Value} {w:World} {a:Nat} (ha:w.cell? ⟨a,0,none⟩=some (.string src)) (hw:Nm w) (hs:src.size<=100) (hn:0 < n) (hp:Reads src 0 groups n bg deepest xs) :
  Calls Tryz.prog 44 #[.func (.func 45) #[] #[.pointer (some ⟨a,0,none⟩)]] w fun e w'=>∃ p,e=.returned (.tuple #[.pointer (some ⟨p,0,none⟩),.int .i64 0,.int .i64 0])/\PtR w.heap.size w' p n bg groups deepest xs/\Kp [] w w':=by
 have hmf:∀ (fn:Fn) (first cap:Array Value) (w:World),(Instr.makeFunc fn first cap).run Tryz.prog w=.ok (.func fn first cap) w:=fun _ _ _ _=>rfl;go_enter_defers Tryz.func44,Tryz.ntmps44
 go_wp2_with fail;obtain ⟨W,hW⟩:∃ W:World,W=((w.alloc (.cells #[.pointer none] 66)).alloc (.cells #[.int .i64 0] 24)).alloc (.cells #[.int .i64 0] 3):=⟨_,rfl⟩;have kW:Kp [] w W:=by rw [hW];exact (Kp.alloc _ _ _).trans ((Kp.alloc _ _ _).trans (Kp.alloc _ _ _))
 have zW:W.heap.size=w.heap.size+3:=by rw [hW];simp
 have a0:W.cell? ⟨w.heap.size,0,none⟩=some (.pointer none):=by rw [hW];simp [go_sem]
 have a1:W.cell? ⟨w.heap.size+1,0,none⟩=some (.int .i64 0):=by rw [hW];simp [go_sem]
 have a2:W.cell? ⟨w.heap.size+1+1,0,none⟩=some (.int .i64 0):=by rw [hW];simp [go_sem]
 have f0:W.frozen? ⟨w.heap.size,0,none⟩=false:=by rw [hW];simp [go_sem]
 have f1:W.frozen? ⟨w.heap.size+1,0,none⟩=false:=by rw [hW];simp [go_sem]
 have f2:W.frozen? ⟨w.heap.size+1+1,0,none⟩=false:=by rw [hW];simp [go_sem]
 rw [<-hW];clear hW;refine (yH ((kW.cell (p:=⟨a,0,none⟩) (World.block_lt_of_cell? _ _ ha) (by simp)).trans ha) (hw.aj kW (by simp)) hs hn hp).mono ?_;rintro e w1 ⟨p,rfl,pt,k1⟩;have b0:=(k1.cell (p:=⟨w.heap.size,0,none⟩) (by simp;omega) (by simp)).trans a0;have b1:=(k1.cell (p:=⟨w.heap.size+1,0,none⟩) (by simp;omega) (by simp)).trans a1;have b2:=(k1.cell (p:=⟨w.heap.size+1+1,0,none⟩) (by simp;omega) (by simp)).trans a2;have g0:=(k1.frozen (p:=⟨w.heap.size,0,none⟩) (by simp;omega) (by simp)).trans f0;have g1:=(k1.frozen (p:=⟨w.heap.size+1,0,none⟩) (by simp;omega) (by simp)).trans f1;have g2:=(k1.frozen (p:=⟨w.heap.size+1+1,0,none⟩) (by simp;omega) (by simp)).trans f2;clear a0 a1 a2 f0 f1 f2;go_wp2_with fail;refine leaves_cons (f:=86) (args:=#[.pointer (some ⟨w.heap.size,0,none⟩),.pointer (some ⟨w.heap.size+1,0,none⟩),.pointer (some ⟨w.heap.size+1+1,0,none⟩)]) (by simp) (by simp [go_sem]) ?_
 refine (DU _ _ _ _).mono ?_;rintro e u' w'' ⟨rfl,rfl,rfl⟩
 have K1:Kp [w.heap.size,w.heap.size+1,w.heap.size+1+1] w1 (((w1.setCell ⟨w.heap.size,0,none⟩ (.pointer (some ⟨p,0,none⟩))).setCell ⟨w.heap.size+1,0,none⟩ (.int .i64 0)).setCell ⟨w.heap.size+1+1,0,none⟩ (.int .i64 0)):=
  (Kp.setCell _ _ (by simp)).trans ((Kp.setCell _ _ (by simp)).trans (Kp.setCell _ _ (by simp)))
 have pt2:=pt.aj K1 (by intro x hx;simp at hx;omega);have K2:=Kp.own (x:=w.heap.size) (Kp.own (x:=w.heap.size+1) (Kp.own (x:=w.heap.size+1+1) (S:=[w.heap.size+1,w.heap.size]) (((kW.trans k1).mono (by simp)).trans (K1.mono (by simp))) (by omega)) (by omega)) (by omega);simp [Leaves,settle,results,Tryz.results44,go_sem,b0,b1,b2];exact ⟨pt2.lower (by omega),K2⟩
theorem gZ {src:ByteArray} {groups n:Nat} {bg:Int} {deepest:Nat} {xs:List Value} {w:World} (hw:Nm w) (hs:src.size<=100) (hn:0 < n) (hp:Reads src 0 groups n bg deepest xs) :
  Calls Tryz.prog 31 #[.string src] w fun e w'=>∃ p,e=.returned (.tuple #[.pointer (some ⟨p,0,none⟩),.int .i64 0,.int .i64 0])/\PtR w.heap.size w' p n bg groups deepest xs/\Kp [] w w':=by
 have hmf:∀ (fn:Fn) (first cap:Array Value) (w:World),(Instr.makeFunc fn first cap).run Tryz.prog w=.ok (.func fn first cap) w:=fun _ _ _ _=>rfl;have k0:=Kp.alloc [] w (.cells #[.string src] 9);go_enter Tryz.func31,Tryz.ntmps31
 go_wp2_with fail;refine (DS (a:=w.heap.size) (by simp) (hw.aj k0 (by simp)) hs hn hp).mono ?_;rintro e w1 ⟨p,rfl,pt,k1⟩;go_wp2_with fail;go_ret3
 exact ⟨p,rfl,pt.lower k0.size,k0.trans k1⟩
theorem jm {P:Program} {ops:Array Oper} {o:Oper} {a:Act} {w:World} {K:Act->World->Prop} {Q:Exit->Act->World->Prop} {E:Prop}
  (hg:o.guard=none) (s x:Operand) (t:TypeId) (hop:o.op=Op.call { callee:=Callee.builtin Builtin.append,args:=#[s,x],argTypes:=#[t,t] })
  (base:Nat) (e:TypeId) (i:TypeInfo) (z:Value) (size bytes:Nat) (h1:P.underlying t=some (.slice e)) (h2:P.info? e=some i) (h3:i.zero=some z) (h4:i.size=size) (h5:i.bytes=bytes) (h6:z.cells.size=size) (h7:0 < size)
  (v:Value) (n:Nat) (xs:List Value) (hs:a.eval s=v) (hown:w.ownsRow base e size v n xs)
  (ad:Addr) (m c:Nat) (news:List Value) (hx:a.eval x=.slice (some ad) m c) (hn:news.length=m * size) (hc:∀ j u,news[j]? = some u->w.cell? (ad.add j)=some u) (h1c:∀ u∈news,u.oneCell'=true)
  (b1:n+m<=maxLen) (b2:(n+m) * bytes<=140737488355328) (hbase:base<=w.heap.size) (hm:0 < m)
  (hK:∀ g cap w',w'.ownsRow base e size (.slice (some ⟨g,0,none⟩) (n+m) cap) (n+m) (xs++news)->w.grownBy w' v.ownBlock->(v.ownBlock=some g\/w.heap.size<=g)->K (a.put o.dst (.slice (some ⟨g,0,none⟩) (n+m) cap)) w') :
  if Region.wanted o (yielded ops a.tmps)=true then Oper.wp P o a w K Q else E:=by
 have hw:Region.wanted o (yielded ops a.tmps)=true:=by simp [Region.wanted,hg]
 rw [Ny hw];obtain ⟨g,cap,w',hrun,r1,r2,r3⟩:=Fu (P:=P) (ty:=o.type) h1 h2 h3 h4 h5 h6 h7 hown hn hc h1c b1 b2 hbase hm (c:=c);unfold Oper.wp;simp [execOp,hop,resolve,invoke,builtin,hs,hx,hrun,Result.andThen];exact hK g cap w' r1 r2 r3
theorem jh {P:Program} {ops:Array Oper} {rest:List Oper} {op:Oper} {a:Act} {w1:World} {Q:Exit->Act->World->Prop} (hgd:op.guard=none) (ty:TypeId) (x y:Operand) (ho:op.op=.store ty x y) (zs:List Value) (T:TypeId) (cells:List Value)
  (hx:a.eval x=.pointer (some ⟨w1.heap.size,0,none⟩)) (hy:a.eval y=.agg cells.toArray) (hl:cells.length=zs.length) (hi:(P.info? ty).map (·.size)=some cells.length) (h1:∀ u∈cells,u.oneCell'=true)
  (h:∀ w2,Bl w2 w1.heap.size cells->Kp [] w1 w2->wpList P ops Q rest (a.put op.dst undef) w2):wpList P ops Q (op::rest) a (w1.alloc (.cells zs.toArray T)):=by
 have B:=Bl.alloc w1 zs T;refine wpList_store_mid hgd ty x y ho w1.heap.size 0 cells.toArray hx hy (fun j hj=>?_) (by simpa using hi) (all_oneCell_toArray h1) (h _ ?_ ?_)
 .have hj':j < zs.length:=by rw [<-hl];simpa using hj
  rw [NJ,B.at_ j _ (Nv hj')];exact ⟨rfl,B.free j⟩
 .exact B.put hl
 .exact (((Kp.alloc _ _ _).trans (dI (S:=[w1.heap.size]) (by simp) _ _ _)).own (Nw _))
theorem Tryz.nO:(Tryz.prog.info? 93).map (·.size)=some 23:=by kernel_rfl
theorem Tryz.zm:(Tryz.prog.info? 93).map (fun i=>(i.zero,i.size,i.bytes))=some (some (.agg (DN (.slice none 0 0) 0 false 0).toArray),23,296):=by kernel_rfl
def Ay (w0 w':World) (b:Nat) (src:ByteArray) (k5:Nat) (σ:Sst) (L:List Adr) (nt:Bool) (x:Nat) (R:Sst->List Value->Sst->List Value->Prop):Prop:=
 ∃ A c fs σ' cv' v',AE fs (.slice A L.length c) L/\(∀ f∈σ.fs,f∈fs) /\
  R { σ with ranges:=if L.length=2 then σ.ranges+1 else σ.ranges,fs:=fs } (DN (.slice A L.length c) (if L.length=2 then σ.ranges else 0) nt x) σ' cv'/\Sr w0 w' b src k5 { σ' with vc:=v',cs:=σ'.cs++[cv'] }
def pfxB (s p:ByteArray):Bool:=decide (p.size<=s.size) && ((s.extract 0 p.size).toList == p.toList)
theorem zw (s p:ByteArray) (w:World) :
  Calls Tryz.prog 102 #[.string s,.string p] w fun e w'=>e=.returned (.bool (pfxB s p))/\w'=w:=by
 go_enter Tryz.func102,Tryz.ntmps102
 go_wp2
 .go_ret;have h:p.size<=s.size:=by assumption
  exact ⟨by simp [pfxB,h],rfl⟩
 .go_ret;have h:¬ p.size<=s.size:=by assumption
  exact ⟨by simp [pfxB,h],rfl⟩
section
variable {w0 w w':World} {b k:Nat} {src:ByteArray} {σ:Sst}
theorem uI (b:Nat) (σ:Sst) (q:Bool):srB b { σ with quiet:=q }=srB b σ:=by
 funext i
 rcases i with _ | _ | _ | _ | _ | _ | _ | _ | i <;> rfl
theorem Sr.quiet (h:Sr w0 w b src k σ) (q:Bool):Sr w0 (w.setCell ⟨b,3,none⟩ (.bool q)) b src k { σ with quiet:=q }:=by
 have kp:Kp [b] w (w.setCell ⟨b,3,none⟩ (.bool q)):=Kp.setCell _ _ (by simp);have hc:∀ j,j≠3->(w.setCell ⟨b,3,none⟩ (Value.bool q)).cell? ⟨b,j,none⟩=w.cell? ⟨b,j,none⟩:=fun j hj=>aq _ (fun e=>by injection e with _ e2 _;exact hj e2.symm);refine ⟨⟨by simpa [World.setCell] using h.cur.lt,h.cur.le,h.cur.small,(hc _ (by omega)).trans h.cur.c0,(hc _ (by omega)).trans h.cur.c1,fun i=>by simpa using h.cur.free i⟩,⟨(hc _ (by omega)).trans h.c.c2,aw _ h.c.c3,(hc _ (by omega)).trans h.c.c4,(hc _ (by omega)).trans h.c.c5,(hc _ (by omega)).trans h.c.c6,(hc _ (by omega)).trans h.c.c7,(hc _ (by omega)).trans h.c.c8,(hc _ (by omega)).trans h.c.c9,(hc _ (by omega)).trans h.c.c10,(hc _ (by omega)).trans h.c.c11⟩,?_⟩
 have r:=h.r.aj kp (fun x hx=>by
  simp at hx;subst hx
  exact ⟨h.r.bk.lo 0 x rfl,fun i hi e=>by have:=h.r.bk.ne i 0 x e rfl;omega,fun f hf e=>(h.r.fx f hf).2.2 0 (by rw [e];rfl)⟩)
 exact ⟨r.kp,r.o4,r.o5,r.o8,r.o11,r.m7,r.m9,r.m10,r.len,by rw [uI];exact r.bk,by rw [uI];exact r.fx⟩
def qtB (src:ByteArray):Bool:=(src.toList == [35,110]) || pfxB src ⟨#[35,110,10]⟩
end
end Go.Proofs.YtiahkfoojjpaaaaGreatDoor
namespace Go.Proofs.YtiahkfoojjpaaaaGreatDoor
open Go.Shelf Go.RowKit
def Tryz.xo:Go.Shelf.Ren:=⟨fun | 171=>108 | 243=>154 | 246=>169 | 283=>175 | 284=>176 | 285=>177 | 286=>178 | 129=>187 | 317=>186 | 318=>188 | 319=>189 | 320=>190 | 337=>198 | 338=>199 | n=>n,fun | 3=>3 | 9=>9 | 2=>2 | 4=>4 | 171=>221 | 0=>0 | 53=>148 | 37=>49 | 5=>5 | 173=>224 | 212=>233 | 51=>234 | 20=>20 | 213=>235 | 46=>203 | 232=>253 | 233=>254 | n=>n,fun | 17=>1 | 18=>2 | 19=>3 | n=>n⟩
theorem Tryz.KL:Go.Proofs.LaysM.n171 Tryz.prog Tryz.xo:={
 mixed:=by kernel_rfl
 f129:=Tryz.func187.trans (congrArg some (by kernel_rfl))
 f171:=Tryz.func108.trans (congrArg some (by kernel_rfl))
 f243:=Tryz.func154.trans (congrArg some (by kernel_rfl))
 f246:=Tryz.func169.trans (congrArg some (by kernel_rfl))
 f283:=Tryz.func175.trans (congrArg some (by kernel_rfl))
 f284:=Tryz.func176.trans (congrArg some (by kernel_rfl))
 f285:=Tryz.func177.trans (congrArg some (by kernel_rfl))
 f286:=Tryz.func178.trans (congrArg some (by kernel_rfl))
 f317:=Tryz.func186.trans (congrArg some (by kernel_rfl))
 f318:=Tryz.func188.trans (congrArg some (by kernel_rfl))
 f319:=Tryz.func189.trans (congrArg some (by kernel_rfl))
 f320:=Tryz.func190.trans (congrArg some (by kernel_rfl))
 f337:=Tryz.func198.trans (congrArg some (by kernel_rfl))
 f338:=Tryz.func199.trans (congrArg some (by kernel_rfl))
 t0:=Tryz.underlying0
 a0:=Tryz.isAgg0
 z0:=Tryz.sizeOf0
 v0:=Tryz.zeroValue0
 t2:=Tryz.underlying2
 a2:=Tryz.isAgg2
 z2:=Tryz.sizeOf2
 v2:=Tryz.zeroValue2
 t3:=Tryz.underlying3
 a3:=Tryz.isAgg3
 z3:=Tryz.sizeOf3
 v3:=Tryz.zeroValue3
 t4:=Tryz.underlying4
 a4:=Tryz.isAgg4
 z4:=Tryz.sizeOf4
 v4:=Tryz.zeroValue4
 t5:=Tryz.underlying5
 a5:=Tryz.isAgg5
 z5:=Tryz.sizeOf5
 v5:=Tryz.zeroValue5
 t9:=Tryz.underlying9
 a9:=Tryz.isAgg9
 z9:=Tryz.sizeOf9
 v9:=Tryz.zeroValue9
 t20:=Tryz.underlying20
 a20:=Tryz.isAgg20
 z20:=Tryz.sizeOf20
 v20:=Tryz.zeroValue20
 t37:=Tryz.underlying49
 a37:=Tryz.isAgg49
 z37:=Tryz.sizeOf49
 v37:=Tryz.zeroValue49
 t46:=Tryz.underlying203
 a46:=Tryz.isAgg203
 z46:=Tryz.sizeOf203
 v46:=Tryz.zeroValue203
 t51:=Tryz.underlying234
 a51:=Tryz.isAgg234
 z51:=Tryz.sizeOf234
 v51:=Tryz.zeroValue234
 t53:=Tryz.underlying148
 a53:=Tryz.isAgg148
 z53:=Tryz.sizeOf148
 v53:=Tryz.zeroValue148
 t171:=Tryz.underlying221
 a171:=Tryz.isAgg221
 z171:=Tryz.sizeOf221
 v171:=Tryz.zeroValue221
 t173:=Tryz.underlying224
 a173:=Tryz.isAgg224
 z173:=Tryz.sizeOf224
 v173:=Tryz.zeroValue224
 t212:=Tryz.underlying233
 a212:=Tryz.isAgg233
 z212:=Tryz.sizeOf233
 v212:=Tryz.zeroValue233
 t213:=Tryz.underlying235
 a213:=Tryz.isAgg235
 z213:=Tryz.sizeOf235
 t232:=Tryz.underlying253
 a232:=Tryz.isAgg253
 z232:=Tryz.sizeOf253
 v232:=Tryz.zeroValue253
 t233:=Tryz.underlying254
 a233:=Tryz.isAgg254
 z233:=Tryz.sizeOf254
 v233:=Tryz.zeroValue254
 g17:=by kernel_rfl
 g18:=by kernel_rfl
 g19:=by kernel_rfl
 i0:=by kernel_rfl
 i2:=by kernel_rfl
 i3:=by kernel_rfl
 i4:=by kernel_rfl
 i5:=by kernel_rfl
 i9:=by kernel_rfl
 i20:=by kernel_rfl
 i37:=by kernel_rfl
 i46:=by kernel_rfl
 i51:=by kernel_rfl
 i53:=by kernel_rfl
 i171:=by kernel_rfl
 i173:=by kernel_rfl
 i212:=by kernel_rfl
 i232:=by kernel_rfl
 i233:=by kernel_rfl
 m17:=by kernel_rfl
 m18:=by kernel_rfl
 m19:=by kernel_rfl }
def Tryz.xn:Go.Shelf.Ren:=⟨fun | 316=>91 | n=>n,fun | 9=>9 | 3=>3 | 4=>4 | 37=>49 | 0=>0 | 127=>133 | 5=>5 | n=>n,fun | n=>n⟩
theorem Tryz.KI:Go.Proofs.LaysM.n316 Tryz.prog Tryz.xn:={
 mixed:=by kernel_rfl
 f316:=Tryz.func91.trans (congrArg some (by kernel_rfl))
 t0:=Tryz.underlying0
 a0:=Tryz.isAgg0
 z0:=Tryz.sizeOf0
 v0:=Tryz.zeroValue0
 t3:=Tryz.underlying3
 a3:=Tryz.isAgg3
 z3:=Tryz.sizeOf3
 v3:=Tryz.zeroValue3
 t4:=Tryz.underlying4
 a4:=Tryz.isAgg4
 z4:=Tryz.sizeOf4
 v4:=Tryz.zeroValue4
 t9:=Tryz.underlying9
 a9:=Tryz.isAgg9
 z9:=Tryz.sizeOf9
 v9:=Tryz.zeroValue9
 t37:=Tryz.underlying49
 a37:=Tryz.isAgg49
 z37:=Tryz.sizeOf49
 v37:=Tryz.zeroValue49
 t127:=Tryz.underlying133
 a127:=Tryz.isAgg133
 z127:=Tryz.sizeOf133
 v127:=Tryz.zeroValue133
 t5:=Tryz.underlying5
 a5:=Tryz.isAgg5
 z5:=Tryz.sizeOf5
 v5:=Tryz.zeroValue5
 i0:=by kernel_rfl
 i3:=by kernel_rfl
 i4:=by kernel_rfl
 i5:=by kernel_rfl
 i9:=by kernel_rfl
 i37:=by kernel_rfl
 i127:=by kernel_rfl }
def Tryz.ze:Go.Shelf.Ren:=⟨fun | 219=>170 | 217=>174 | 225=>179 | 224=>180 | 267=>181 | 266=>185 | 314=>191 | n=>n,fun | 9=>9 | 3=>3 | 4=>4 | 5=>5 | 46=>203 | 146=>237 | 51=>234 | n=>n,fun | 1=>0 | n=>n⟩
theorem Tryz.lays219:Go.Proofs.Lays.n219 Tryz.prog Tryz.ze:={
 mixed:=by kernel_rfl
 f217:=Tryz.func174.trans (congrArg some (by kernel_rfl))
 f219:=Tryz.func170.trans (congrArg some (by kernel_rfl))
 f224:=Tryz.func180.trans (congrArg some (by kernel_rfl))
 f225:=Tryz.func179.trans (congrArg some (by kernel_rfl))
 f266:=Tryz.func185.trans (congrArg some (by kernel_rfl))
 f267:=Tryz.func181.trans (congrArg some (by kernel_rfl))
 f314:=Tryz.func191.trans (congrArg some (by kernel_rfl))
 t3:=Tryz.underlying3
 a3:=Tryz.isAgg3
 z3:=Tryz.sizeOf3
 v3:=Tryz.zeroValue3
 t4:=Tryz.underlying4
 a4:=Tryz.isAgg4
 z4:=Tryz.sizeOf4
 v4:=Tryz.zeroValue4
 t5:=Tryz.underlying5
 a5:=Tryz.isAgg5
 z5:=Tryz.sizeOf5
 v5:=Tryz.zeroValue5
 t9:=Tryz.underlying9
 a9:=Tryz.isAgg9
 z9:=Tryz.sizeOf9
 v9:=Tryz.zeroValue9
 t46:=Tryz.underlying203
 a46:=Tryz.isAgg203
 z46:=Tryz.sizeOf203
 v46:=Tryz.zeroValue203
 t51:=Tryz.underlying234
 a51:=Tryz.isAgg234
 z51:=Tryz.sizeOf234
 v51:=Tryz.zeroValue234
 t146:=Tryz.underlying237
 a146:=Tryz.isAgg237
 z146:=Tryz.sizeOf237
 v146:=Tryz.zeroValue237
 g1:=by kernel_rfl }
theorem clone0 (s:ByteArray) (w:World) (h:s.size<=281474976710656) :
  Calls Tryz.prog 91 #[.string s] w fun e w'=>e=.returned (.string s)/\Kp [] w w':=
 (Any.stringslite_Clone Tryz.KI s w h).mono fun _ _ ⟨he,hb⟩=>⟨he,Kp.Km hb⟩
theorem zX (s:ByteArray) (w:World) (h:s.size<=281474976710656) :
  Calls Tryz.prog 50 #[.string s] w fun e w'=>e=.returned (.string s)/\Kp [] w w':=by
 go_enter Tryz.func50,Tryz.ntmps50
 go_wp2_with fail;refine (clone0 s w h).mono ?_;rintro e w1 ⟨rfl,k1⟩;go_wp2_with fail;go_ret;exact ⟨rfl,k1⟩
theorem itoa_g (n : Int) (h0 : -9223372036854775808 <= n) (h1 : n <= 9223372036854775807) (w : World) (htab : Lib.TabIs Tryz.prog w "internal/strconv.uint64pow10" .u64 Lib.pow10Tab) :
  Calls Tryz.prog 108 #[.int .i64 n] w fun e w'=>e=.returned (.string ⟨(Lib.itoa n).toArray⟩)/\∃ k os,w'=Sort.grow (w.drewN k) os:=Any.strconv_Itoa Tryz.KL n h0 h1 w htab
theorem Hw (s:ByteArray) (c:UInt8) (w:World) :
  Calls Tryz.prog 170 #[.string s,.string ⟨#[c]⟩] w fun e w'=>e=.returned (.int .i64 (Lib.indexByte s.data.toList c))/\w'=w:=Any.stringslite_Index_one Tryz.lays219 s c w
end Go.Proofs.YtiahkfoojjpaaaaGreatDoor
namespace Go.Proofs.YtiahkfoojjpaaaaGreatDoor
open Go.RowKit
abbrev rdV (src:ByteArray) (ob lb nb:Nat):List Value:=[.string src,.int .i64 0,.int .i64 4,.bool false,.slice none 0 0,.slice none 0 0,.int .i64 0,.map (some ob),.slice none 0 0,.map (some lb),.map (some nb),.slice none 0 0]
def st0 (ob lb nb:Nat):Sst:=⟨false,.slice none 0 0,[],.slice none 0 0,[],0,ob,lb,nb,.slice none 0 0,[],.slice none 0 0,[],[],[],[]⟩
theorem JO {w w1 w2 w5:World} {src:ByteArray} (hsz:src.size<=2000) (k1:Kp [] w w1) (k2:Kp [] w1 w2) (ht:w2.heap[w1.heap.size]? = some (tabO opsL)) (B:Bl w5 ((w2.alloc (.map #[] 0)).alloc (.map #[] 0)).heap.size (rdV src w1.heap.size w2.heap.size (w2.heap.size+1))) (k5:Kp [] ((w2.alloc (.map #[] 0)).alloc (.map #[] 0)) w5) :
  Sr w w5 ((w2.alloc (.map #[] 0)).alloc (.map #[] 0)).heap.size src 0 (st0 w1.heap.size w2.heap.size (w2.heap.size+1)):=by
 obtain ⟨b,hb⟩:∃ b,b=((w2.alloc (.map #[] 0)).alloc (.map #[] 0)).heap.size:=⟨_,rfl⟩;have hb2:b=w2.heap.size+2:=by rw [hb];simp
 have klt:=aN ht;have s1:=k1.size;have ka:Kp [] w2 w5:=((Kp.alloc [] _ _).trans (Kp.alloc _ _ _)).trans k5;have hz1:(w2.alloc (.map #[] 0)).heap.size=w2.heap.size+1:=by simp
 have hz2:((w2.alloc (.map #[] 0)).alloc (.map #[] 0)).heap.size=w2.heap.size+2:=by simp
 have m2:w5.heap[w2.heap.size]? = some (.map #[] 0):=
  (k5.block _ (by omega) (by simp)).trans (((Kp.alloc [] (w2.alloc (.map #[] 0)) _).block _ (by omega) (by simp)).trans (heap_alloc_new w2 _))
 have m3:w5.heap[w2.heap.size+1]? = some (.map #[] 0):=by
  refine (k5.block _ (by omega) (by simp)).trans ?_;rw [<-hz1];exact heap_alloc_new (w2.alloc (.map #[] 0)) _
 rw [<-hb] at B ⊢;have blt:=B.lt;have hB:∀ i p,srB b (st0 w1.heap.size w2.heap.size (w2.heap.size+1)) i=some p->(i=0/\p=b)\/(i=1/\p=w1.heap.size)\/(i=2/\p=w2.heap.size)\/(i=3/\p=w2.heap.size+1):=fun i p hp=>by
  rcases i with _ | _ | _ | _ | _ | _ | _ | _ | i <;> simp [srB,st0,Value.ownBlock] at hp <;> omega
 refine ⟨⟨blt,NI _,hsz,B.at_ 0 _ rfl,B.at_ 1 _ rfl,B.free⟩,⟨B.at_ 2 _ rfl,B.at_ 3 _ rfl,B.at_ 4 _ rfl,B.at_ 5 _ rfl,B.at_ 6 _ rfl,B.at_ 7 _ rfl,B.at_ 8 _ rfl,B.at_ 9 _ rfl,B.at_ 10 _ rfl,B.at_ 11 _ rfl⟩,⟨k1.trans (k2.trans ka),World.ownsRow_nil _ _ _ _,World.ownsRow_nil _ _ _ _,World.ownsRow_nil _ _ _ _,World.ownsRow_nil _ _ _ _,(ka.block _ klt (by simp)).trans ht,m2,m3,(fun c hc=>by cases hc),⟨fun i p hp=>?_,fun i p hp=>?_,fun i j p hi hj=>?_⟩,(fun f hf=>by cases hf)⟩⟩
 .have:=hB i p hp;omega
 .have:=hB i p hp;omega
 .have:=hB i p hi;have:=hB j p hj;omega
