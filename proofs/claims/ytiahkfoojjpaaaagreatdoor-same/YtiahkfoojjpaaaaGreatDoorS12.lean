import Derived.Test.YtiahkfoojjpaaaaGreatDoorS09
import Derived.Test.YtiahkfoojjpaaaaGreatDoorS11
set_option maxRecDepth 100000
set_option maxHeartbeats 16000000
set_option linter.all false
namespace Go.Proofs.YtiahkfoojjpaaaaGreatDoor
open Go.RowKit
theorem Oq{b:Nat}{src:ByteArray}{k g:Nat}(behind:ByteArray){w:World}(hr:Rd w b src k g)(h:saw src k 110=true):Calls Tryz.prog 203 #[.pointer (some ⟨b,0,none⟩),.string behind] w fun e w'=>e=.returned (.int .u8 10)/\Rd w' b src (k+1) g/\Kp [b] w w':=by
 go_enter Tryz.func203,Tryz.ntmps203
 go_wp2_with fail;refine(aK 110 hr h).mono ?_;rintro e w1 ⟨rfl,r1,k1⟩;go_wp2_with fail;go_ret;exact⟨rfl,r1,k1⟩
theorem Ot{b:Nat}{src:ByteArray}{k g:Nat}(behind:ByteArray){w:World}(hr:Rd w b src k g)(hk:k<src.size)(h1:saw src k 110=false)(h2:saw src k 116=false){v:Int}(hix:Lib.indexByte behind.data.toList src[k]=v)(hv:0<=v):Calls Tryz.prog 203 #[.pointer (some ⟨b,0,none⟩),.string behind] w fun e w'=>e=.returned (.int .u8 (src[k]).toNat)/\Rd w' b src (k+1) g/\Kp [b] w w':=by
 go_enter Tryz.func203,Tryz.ntmps203
 go_wp2_with fail;refine(aF 110 hr h1).mono ?_;rintro e w1 ⟨rfl,r1,k1⟩;go_wp2_with fail;refine(aF 116 r1 h2).mono ?_;rintro e w2 ⟨rfl,r2,k2⟩;have c0:=r2.c0;have c1:=r2.c1;have f1:=r2.free 1;have hsm:=r2.small;have he:((k:Int)==(src.size:Int))=false:=by simp;omega
 have hix':Lib.indexByte behind.data.toList ((src[k].toNat:Int)).toNat.toUInt8=v:=by simpa using hix
 have hv':¬v<0:=by omega
 go_wp2_with fail;go_quiet (first|(go_at_call 104;exact iA r2 _)|(go_at_call 162;exact nH _ _ hix' _ _));go_wp2;go_quiet (fail);go_wp2;go_ret;exact⟨rfl,((r2.drewN _).step hk).drewN _,k1.trans (k2.trans ((Kp.drewN _ _ _).trans ((Kp.setCell _ _ (by simp)).trans (Kp.drewN _ _ _))))⟩
def qT(b:Nat)(src:ByteArray)(barred behind:ByteArray)(k l g x:Nat):Prop:=
 ∀w:World,Rd w b src k g->Calls Tryz.prog 196 #[.pointer (some ⟨b,0,none⟩),.string barred,.string behind] w fun e w'=>e=.returned (.int .u8 x)/\Rd w' b src l g/\Kp [b] w w'
theorem GS{b:Nat}{src:ByteArray}{k g:Nat}{barred behind:ByteArray}(hk:k<src.size)(h92:saw src k 92=false)(h10:saw src k 10=false)(hbar:Lib.indexByte barred.data.toList src[k] = -1):qT b src barred behind k (k+1) g (src[k]).toNat:=fun _ hr=>zV barred behind hr hk h92 h10 hbar
theorem byte_n{b:Nat}{src:ByteArray}{k g:Nat}{barred behind:ByteArray}(h92:saw src k 92=true)(h:saw src (k+1) 110=true):qT b src barred behind k (k+1+1) g 10:=by
 intro w hr;go_enter Tryz.func196,Tryz.ntmps196
 go_wp2_with fail;refine(aK 92 hr h92).mono ?_;rintro e w1 ⟨rfl,r1,k1⟩;go_wp2_with fail;refine(Oq behind r1 h).mono ?_;rintro e w2 ⟨rfl,r2,k2⟩;go_wp2_with fail;go_ret;exact⟨rfl,r2,k1.trans k2⟩
theorem byte_c{b:Nat}{src:ByteArray}{k g:Nat}{barred behind:ByteArray}(h92:saw src k 92=true)(hk:k+1<src.size)(h1:saw src (k+1) 110=false)(h2:saw src (k+1) 116=false){v:Int}(hix:Lib.indexByte behind.data.toList src[k+1]=v)(hv:0<=v):qT b src barred behind k (k+1+1) g (src[k+1]).toNat:=by
 intro w hr;go_enter Tryz.func196,Tryz.ntmps196
 go_wp2_with fail;refine(aK 92 hr h92).mono ?_;rintro e w1 ⟨rfl,r1,k1⟩;go_wp2_with fail;refine(Ot behind r1 hk h1 h2 hix hv).mono ?_;rintro e w2 ⟨rfl,r2,k2⟩;go_wp2_with fail;go_ret;exact⟨rfl,r2,k1.trans k2⟩
def iM:ByteArray:=⟨#[92,124,42,43,63,123,125,40,41,46,94,36,91,93]⟩
def iX:ByteArray:=⟨#[92,124,42,43,63,123,125,40,41,46,94,36,91,93,47]⟩
abbrev edgeV(k:Int):Value:=.iface 228 (.agg #[.int .i64 k])
theorem Lo{b:Nat}{src:ByteArray}{k l g x:Nat}{w:World}(hr:Rd w b src k g)(hx:x<256)(h40:saw src k 40=false)(h46:saw src k 46=false)(h91:saw src k 91=false)(hb:qT b src iM iX k l g x):Calls Tryz.prog 183 #[.pointer (some ⟨b,0,none⟩)] w fun e w'=>e=.returned (oneV (span dq x (x+1)))/\Rd w' b src l g/\Kp [b] w w':=by
 go_enter Tryz.func183,Tryz.ntmps183
 go_wp2_with fail;refine(je 40 hr).mono ?_;rw[h40];rintro e w1 ⟨rfl,n,rfl⟩;go_wp2_with fail;refine(aF 46 (hr.drewN n) h46).mono ?_;rintro e w2 ⟨rfl,r2,k2⟩;go_wp2_with fail;refine(aF 91 r2 h91).mono ?_;rintro e w3 ⟨rfl,r3,k3⟩;go_wp2_with fail;refine(hb _ r3).mono ?_;rintro e w4 ⟨rfl,r4,k4⟩;have q4:=Kp.alloc [b] w4 oB;have r5:=r4.aj (Kp.alloc [] w4 oB) (by simp);have s5:=LI w4;have hz5:(w4.alloc oB).heap.size=w4.heap.size+1:=by simp
 have hbl:=r4.lt;go_wp2_with fail;refine(xK w4.heap.size dq x x hx hx (QD _) _ s5).mono ?_;rintro e w6 ⟨rfl,s6,k6⟩;have a0:=s6.cell 0 (by omega);have a1:=s6.cell 1 (by omega);have a2:=s6.cell 2 (by omega);have a3:=s6.cell 3 (by omega);have r6:=r5.aj k6 (by simp;omega);have k6':Kp [b] w4 w6:=by
  have:=Kp.own (x:=w4.heap.size) (S:=[b]) ((q4.mono (by simp)).trans (k6.mono (T:=[w4.heap.size,b]) (by simp))) (QD _);exact this
 clear s5 s6 r5;go_wp2_with fail;go_ret;exact⟨rfl,r6,(Kp.drewN _ _ n).trans (k2.trans (k3.trans (k4.trans k6')))⟩
theorem AY{b:Nat}{src:ByteArray}{k g:Nat}(h94:saw src k 94=true):LL b src k (k+1) g (edgeV 1):=by
 intro w hr _;go_enter Tryz.func171,Tryz.ntmps171
 go_wp2_with fail;refine(aK 94 hr h94).mono ?_;rintro e w1 ⟨rfl,r1,k1⟩;go_wp2_with fail;go_ret;exact⟨rfl,r1,k1⟩
theorem I3{b:Nat}{src:ByteArray}{k g:Nat}(h94:saw src k 94=false)(h36:saw src k 36=true):LL b src k (k+1) g (edgeV 2):=by
 intro w hr _;go_enter Tryz.func171,Tryz.ntmps171
 go_wp2_with fail;refine(aF 94 hr h94).mono ?_;rintro e w1 ⟨rfl,r1,k1⟩;go_wp2_with fail;refine(aK 36 r1 h36).mono ?_;rintro e w2 ⟨rfl,r2,k2⟩;go_wp2_with fail;go_ret;exact⟨rfl,r2,k1.trans k2⟩
theorem yr(v : Value)(w : World):(method 370 228 v "ribbon/pattern.size").run Tryz.prog w = .ok (228, v) w := by kernel_rfl
theorem zF(v : Value)(w : World):(method 370 228 v "ribbon/pattern.emit").run Tryz.prog w = .ok (227, v) w := by kernel_rfl
theorem Km(k:Int)(w:World):Calls Tryz.prog 228 #[.agg #[.int .i64 k]] w fun e w'=>e=.returned (.int .i64 1)/\Kp [] w w':=by
 go_enter Tryz.func228,Tryz.ntmps228
 go_wp2;go_ret;exact⟨rfl,Kp.alloc _ _ _⟩
theorem pq(s:ByteArray):∀(n i:Nat) (r:List UInt8),s.size-i=n->ByteArray.toList.loop s i r=r.reverse++s.data.toList.drop i
 | 0,i,r,h=>by
  rw[ByteArray.toList.loop,Qw (by omega),RP (by show s.size<=i;omega),Ry]
 | n+1,i,r,h=>by
  have hi:i<s.size:=by omega
  rw[ByteArray.toList.loop,QB hi,pq s n (i+1) _ (by omega)];have e:s.data.toList.drop i=s.get! i::s.data.toList.drop (i+1):=by
   have hi':i<s.data.toList.length:=hi;rw[QW hi']
   congr 1
   show s.data[i]=s.data[i]!;exact(getElem!_pos s.data i hi).symm
  rw[e];simp
theorem toList_data(s:ByteArray):s.toList=s.data.toList:=by
 show ByteArray.toList.loop s 0 []=_;rw[pq s s.size 0 [] rfl];rfl
theorem qV(v : Value)(w : World):(method 370 240 v "ribbon/pattern.size").run Tryz.prog w = .ok (230, v) w := by kernel_rfl
theorem rj(v : Value)(w : World):(method 370 240 v "ribbon/pattern.emit").run Tryz.prog w = .ok (229, v) w := by kernel_rfl
def Cq(L T:Nat)(w:World):Prop:=T<w.heap.size/\T≠L/\∀v,w.cell? ⟨L,0,none⟩=some v->v.ownBlock≠some T
def aJ(L:Nat)(w w':World):Prop:=∀T,Cq L T w->Cq L T w'/\w'.heap[T]? = w.heap[T]?
theorem aJ.trans{L:Nat}{a b c:World}(h:aJ L a b)(k:aJ L b c):aJ L a c:=fun T s=>by
 obtain⟨h1,h2⟩:=h T s;obtain⟨k1,k2⟩:=k T h1;exact⟨k1,k2.trans h2⟩
theorem aJ.aj{L:Nat}{w w':World}(hl:L<w.heap.size)(k:Kp [] w w'):aJ L w w':=fun T s=>by
 refine⟨⟨Qx s.1 k.size,s.2.1,fun v hv=>s.2.2 v ?_⟩,k.block T s.1 (by simp)⟩;rw[<-hv];exact(k.cell (p:=⟨L,0,none⟩) hl (by simp)).symm
theorem aJ.set{L i:Nat}{w:World}(hi:i≠0)(u:Value):aJ L w (w.setCell ⟨L,i,none⟩ u):=fun T s=>by
 refine⟨⟨by simpa[World.setCell] using s.1,s.2.1,fun v hv=>s.2.2 v ?_⟩,Below.heap_setCell _ _ _ _ s.2.1⟩
 rwa [aq _ (fun e=>by injection e with _ e2 _;exact hi e2)] at hv
theorem aJ.cell{L T i:Nat}{w w':World}{v:Value}(h:aJ L w w')(s:Cq L T w)(hv:w.cell? ⟨T,i,none⟩=some v):w'.cell? ⟨T,i,none⟩=some v:=
 (World.cell?_of_block (w:=w) (h T s).2).trans hv
theorem Ew{L n' g c:Nat}{v:Value}{w W w':World}(hv:w.cell? ⟨L,0,none⟩=some v)(kW:Kp [] w W)(hg:W.grownBy w' v.ownBlock)(hor:v.ownBlock=some g\/W.heap.size<=g)(hc:w'.cell? ⟨L,0,none⟩=some v):aJ L w (w'.setCell ⟨L,0,none⟩ (.slice (some ⟨g,0,none⟩) n' c)):=fun T s=>by
 have hne:=s.2.2 v hv;have hTW:T<W.heap.size:=Qx s.1 kW.size;have hz:w'.heap.size<=(w'.setCell ⟨L,0,none⟩ (.slice (some ⟨g,0,none⟩) n' c)).heap.size:=by simp[World.setCell]
 refine⟨⟨Qx hTW (QC hg.size hz),s.2.1,fun u hu=>?_⟩,?_⟩
 .rw[aw _ hc] at hu;have e:=(Option.some.inj hu).symm;subst e;intro q;have e:g=T:=by simpa[Value.ownBlock] using q
  rcases hor with r|r
  .exact hne (e ▸ r)
  .omega
 .exact(Below.heap_setCell _ _ _ _ s.2.1).trans ((hg.block T hTW (fun e=>hne e.symm)).trans (kW.block T s.1 (by simp)))
theorem Ls.depth{w:World}{L n:Nat}{xs:List Value}{d dp:Nat}(h:Ls w L n xs d dp)(q:Nat):Ls (w.setCell ⟨L,1,none⟩ (.int .i64 (q:Int))) L n xs q dp:=by
 obtain⟨v,h1,h2,h3⟩:=h.code;have cf:∀i,i≠1->(w.setCell ⟨L,1,none⟩ (.int .i64 (q:Int))).cell? ⟨L,i,none⟩=w.cell? ⟨L,i,none⟩:=fun i hi=>aq _ (fun e=>by injection e with _ e2 _;exact hi e2.symm);exact⟨by simpa[World.setCell] using h.lt,⟨v,(cf 0 (by omega)).trans h1,au h2 (fun k hk _=>Below.heap_setCell _ _ _ _ (by have:=(h2.lt k hk).1;show k≠L;omega)),h3⟩,aw _ h.c1,(cf 2 (by omega)).trans h.c2,fun i=>by simpa using h.free i⟩
theorem Ls.deep{w:World}{L n:Nat}{xs:List Value}{d dp:Nat}(h:Ls w L n xs d dp)(q:Nat):Ls (w.setCell ⟨L,2,none⟩ (.int .i64 (q:Int))) L n xs d q:=by
 obtain⟨v,h1,h2,h3⟩:=h.code;have cf:∀i,i≠2->(w.setCell ⟨L,2,none⟩ (.int .i64 (q:Int))).cell? ⟨L,i,none⟩=w.cell? ⟨L,i,none⟩:=fun i hi=>aq _ (fun e=>by injection e with _ e2 _;exact hi e2.symm);exact⟨by simpa[World.setCell] using h.lt,⟨v,(cf 0 (by omega)).trans h1,au h2 (fun k hk _=>Below.heap_setCell _ _ _ _ (by have:=(h2.lt k hk).1;show k≠L;omega)),h3⟩,(cf 1 (by omega)).trans h.c1,aw _ h.c2,fun i=>by simpa using h.free i⟩
theorem lG{w:World}{L i:Nat}(v:Value){b:Nat}(hb:L<=b):Below L w (w.setCell ⟨b,i,none⟩ v):=
 ⟨rfl,rfl,rfl,by simp[World.setCell],fun k hk=>Below.heap_setCell _ _ _ _ (by show k≠b;omega)⟩
theorem Cp{L n:Nat}{xs:List Value}{v:Value}{w:World}(hv:w.cell? ⟨L,0,none⟩=some v)(hown:w.ownsRow (L+1) 152 9 v n xs)(hn:n<=100000)(hl:L<w.heap.size)(hf:w.frozen? ⟨L,0,none⟩=false)(kind next other slot depth:Int)(m:Nat->Bool):Calls Tryz.prog 88 #[.pointer (some ⟨L,0,none⟩),.agg (ins kind next other slot depth m).toArray] w fun e w'=>e=.returned (.int .i64 n) /\ El L (n+1) (xs++ins kind next other slot depth m) w w'/\aJ L w w':=by
 obtain⟨i0,hi,hz0,hz1,hz2⟩:=info_parts Tryz.JR;have HO:=hid hown;have HV:=hid hv;have HF:=hid hf;have HL:=hid hl;clear hown;have hins:=JP kind next other slot depth m;have HI:=hid hins;clear hins;unfold ins at *;go_enter Tryz.func88,Tryz.ntmps88
 go_wp2;go_region_law (refine fK rfl (.tmp 9) (.tmp 11) 108 rfl (L+1) 152 i0 _ 9 72 Tryz.underlying108 hi hz0 hz1 hz2 rfl (by decide) v n xs (by simp[Act.eval]) (((HO.out.alloc _).alloc _).drew) ⟨w.heap.size+1,0,none⟩ 1 1 _ (by simp[Act.eval]) rfl (by exact gk (w.alloc _) _ _ _ (by simp)) HI.out (by unfold maxLen;omega) (by omega) (by simp;omega) (by decide) ?_;intro g c w' hown' hgrow hor;have c0':=((nK ((HO.out.alloc _).alloc _).drew hgrow (p:=⟨L,0,none⟩) (RL _) (by simp;omega)).trans (((Kp.alloc [] _ _).trans ((Kp.alloc _ _ _).trans (Kp.drew _ _))).cell HL.out (by simp))).trans HV.out;have f0':=((nJ ((HO.out.alloc _).alloc _).drew hgrow (p:=⟨L,0,none⟩) (RL _) (by simp;omega)).trans (((Kp.alloc [] _ _).trans ((Kp.alloc _ _ _).trans (Kp.drew _ _))).frozen HL.out (by simp))).trans HF.out;have HO':=hid hown';have HG:=hid hgrow;have HR:=hid hor;clear hown' hgrow hor)
 all_goals go_wp2
 all_goals go_ret
 all_goals exact⟨rfl,Eh HL.out HV.out ((Kp.alloc _ _ _).trans ((Kp.alloc _ _ _).trans (Kp.drew _ _))) ((HO.out.alloc _).alloc _).drew HG.out HO'.out,Ew HV.out ((Kp.alloc _ _ _).trans ((Kp.alloc _ _ _).trans (Kp.drew _ _))) HG.out HR.out c0'⟩
theorem uT{L n:Nat}{xs:List Value}{d dp:Nat}{w:World}(h:Ls w L n xs d dp)(hn:n<=100000)(kind next other slot depth:Int)(m:Nat->Bool):Calls Tryz.prog 88 #[.pointer (some ⟨L,0,none⟩),.agg (ins kind next other slot depth m).toArray] w fun e w'=>e=.returned (.int .i64 n)/\Ls w' L (n+1) (xs++ins kind next other slot depth m) d dp/\Below L w w'/\aJ L w w':=by
 obtain⟨v,h1,h2,_⟩:=h.code;exact(Cp h1 h2 hn h.lt (h.free 0) kind next other slot depth m).mono fun e w' ⟨he,ha,hs⟩=>⟨he,h.added ha,ha.below,hs⟩
theorem JJ{L n:Nat}{xs:List Value}{d dp:Nat}{w:World}(h:Ls w L n xs d dp)(hn:n<=100000)(kind next other slot depth:Int):Calls Tryz.prog 88 #[.pointer (some ⟨L,0,none⟩),.agg (Ga kind next other slot depth).toArray] w fun e w'=>e=.returned (.int .i64 n)/\Ls w' L (n+1) (xs++Ga kind next other slot depth) d dp/\Below L w w'/\aJ L w w':=by
 have:=uT h hn kind next other slot depth dq;rw[qu] at this;exact this
theorem Jp{L n:Nat}{xs:List Value}{d dp:Nat}{w:World}(h:Ls w L n xs d dp)(hn:n<=100000)(next:Int)(m:Nat->Bool):Calls Tryz.prog 233 #[AH m,.pointer (some ⟨L,0,none⟩),.int .i64 next] w fun e w'=>e=.returned (.int .i64 n)/\Ls w' L (n+1) (xs++ins 0 next 0 0 d m) d dp/\Below L w w'/\aJ L w w':=by
 have c1:=h.c1;have hl:=h.lt;go_enter Tryz.func233,Tryz.ntmps233
 go_wp2;go_region_with (go_at_call 88;refine(uT (h.aj (by exact(Kp.alloc _ _ _).trans (Kp.drew _ _))) hn 0 next 0 0 d m).mono ?_;rintro e w1 ⟨rfl,h1,b1,s1⟩)
 all_goals go_wp2
 all_goals go_ret
 all_goals exact⟨rfl,h1,(((Below.refl L w).alloc (by omega) _).drew).trans b1,(aJ.aj hl ((Kp.alloc _ _ _).trans (Kp.drew _ _))).trans s1⟩
theorem Ls.stored{w:World}{L n g c:Nat}{xs:List Value}{d dp:Nat}(h:Ls w L n xs d dp)(hv:w.cell? ⟨L,0,none⟩=some (.slice (some ⟨g,0,none⟩) n c))(j:Nat)(u:Value):Ls (w.setCell ⟨g,j,none⟩ u) L n (xs.set j u) d dp/\Below L w (w.setCell ⟨g,j,none⟩ u)/\aJ L w (w.setCell ⟨g,j,none⟩ u):=by
 obtain⟨v,h1,h2,h3⟩:=h.code;have e:v=.slice (some ⟨g,0,none⟩) n c:=Option.some.inj (h1.symm.trans hv);subst e;have hg:=(h2.lt g (by simp[Value.ownBlock])).1;have cf:∀i,(w.setCell ⟨g,j,none⟩ u).cell? ⟨L,i,none⟩=w.cell? ⟨L,i,none⟩:=fun i=>aq _ (fun e=>by injection e with e1 _ _;omega);refine⟨⟨by simpa[World.setCell] using h.lt,⟨_,(cf 0).trans h1,(h2.stored j u).1,h3⟩,(cf 1).trans h.c1,(cf 2).trans h.c2,fun i=>by simpa using h.free i⟩,lG _ (by omega),fun T s=>?_⟩;have hne:T≠g:=fun e=>s.2.2 _ h1 (by simp[Value.ownBlock,e]);refine⟨⟨by simpa[World.setCell] using s.1,s.2.1,fun v' hv'=>s.2.2 v' ?_⟩,Below.heap_setCell _ _ _ _ hne⟩
 rwa [cf 0] at hv'
section
variable {cd:Nat->In}{n D:Nat}{text:ByteArray}
theorem jl{pl:Nat}{r:Mc}:∀(k:Nat) (o:Option Thr) (s:Mc),eQ cd n D text pl k o s=some r->eQ cd n D text pl (k+1) o s=some r
 | 0,o,s,h=>by rw[eQ] at h;cases h
 | k+1,some t,s,h=>by
  rw[eQ] at h ⊢;split at h
  .next q=>rw[QB q];exact jl k _ _ h
  .next q=>rw[Qw q];exact jl k _ _ h
 | k+1,none,s,h=>by
  rw[eQ] at h ⊢
  cases e:s.left.getLast? with
  | none=>rw[e] at h;exact h
  | some t=>rw[e] at h;exact jl k _ _ h
theorem xn{pl:Nat}{r:Mc}{o:Option Thr}{s:Mc}{k:Nat}(h:eQ cd n D text pl k o s=some r):∀j,eQ cd n D text pl (k+j) o s=some r
 | 0=>h
 | j+1=>jl _ _ _ (xn h j)
theorem zG{pl:Nat}{r r':Mc}{o:Option Thr}{s:Mc}{k k':Nat}(h:eQ cd n D text pl k o s=some r)(h':eQ cd n D text pl k' o s=some r'):r=r':=by
 have a:=xn h k';have b:=xn h' k;rw[Nat.add_comm k' k] at b;exact Option.some.inj (a.symm.trans b)
def jt(cd:Nat->In)(n D:Nat)(text:ByteArray)(F pl:Nat):List Thr->Mc->Option Mc
 | [],s=>some s
 | t::l,s=>if s.fd=true/\s.fc 0<t.x 0 then some s else match eQ cd n D text pl F (some t) s with
  | some s1=>jt cd n D text F pl l s1
  | none=>none
theorem yg{pl F:Nat}{r s':Mc}:∀(l:List Thr) (s:Mc),jr cd n D text pl l s s'->jt cd n D text F pl l s=some r->s'=r
 | [],s,h,e=>by rw[jr] at h;rw[jt] at e;rw[h];exact Option.some.inj e
 | t::l,s,h,e=>by
  rw[jr] at h;rw[jt] at e;rcases h with⟨h1,h2,h3⟩|⟨h1,s1,⟨k,h2⟩,h3⟩
  .rw[QB ⟨h1,h2⟩] at e;rw[h3];exact Option.some.inj e
  .rw[Qw h1] at e
   cases q:eQ cd n D text pl F (some t) s with
   | none=>rw[q] at e;cases e
   | some s2=>
    rw[q] at e;have:=zG h2 q;subst this;exact yg l s1 h3 e
def qW(cd:Nat->In)(n D:Nat)(text:ByteArray)(bg F:Nat):Nat->Nat->List Thr->Mc->Option Mc
 | 0,_,_,s=>some s
 | k+1,pl,here,s=>match (if s.fd=true then here else here++[⟨bg,0,nz pl⟩]) with
  | []=>some s
  | t::l=>match jt cd n D text F pl (t::l) s with
   | some s1=>qW cd n D text bg F k (pl+1) s1.ahead { s1 with ahead:=[]}
   | none=>none
theorem CX{bg F:Nat}{r s':Mc}:∀(k pl:Nat) (here:List Thr) (s:Mc),oW cd n D text bg k pl here s s'->qW cd n D text bg F k pl here s=some r->s'=r
 | 0,pl,here,s,h,e=>by rw[oW] at h;rw[qW] at e;rw[h];exact Option.some.inj e
 | k+1,pl,here,s,h,e=>by
  rw[oW] at h;rw[qW] at e;generalize (if s.fd=true then here else here++[⟨bg,0,nz pl⟩])=hh at h e
  cases hh with
  | nil=>
   rcases h with⟨_,h⟩|⟨h,_⟩
   .rw[h];exact Option.some.inj e
   .exact absurd rfl h
  | cons t l=>
   rcases h with⟨h,_⟩|⟨_,s1,h1,h2⟩
   .cases h
   .cases q:jt cd n D text F pl (t::l) s with
    | none=>simp only[q] at e;cases e
    | some s2=>
     simp only[q] at e;have:=yg _ _ h1 q;subst this;exact CX k (pl+1) _ _ h2 e
end
theorem J6{src text:ByteArray}{n bg deepest:Nat}{xs:List Value}{cd:Nat->In}{w:World}{a b:Nat}(hw:Nm w)(hs:src.size<=100)(ht:text.size<=1000)(hn:n*(deepest+1)<=9000)(hbg:bg<n)(hp:Reads src 0 0 n bg deepest xs)(hcd:∀(B:Nat) (w:World) (p:Nat),PtR B w p n bg 0 deepest xs->∃g c,Cd w p g c n deepest cd)(hres:∀s',oW cd n deepest text bg (text.size+1) 0 [] mc0 s'->s'.fd=true/\s'.fc 0=a/\s'.fc 1=b):Calls Tryz.prog 20 #[.string src,.string text,.int .i64 a,.int .i64 b] w fun e w'=>e=.returned (.bool true)/\Kp [] w w':=by
 have hm:Calls Tryz.prog 19 #[.string src,.string text] w fun e w'=>Kp [] w w'/\∃q z,e=.returned (.tuple #[.slice (some ⟨q,0,none⟩) 2 z,.int .i64 0,.int .i64 0])/\w'.cell? ⟨q,0,none⟩=some (.int .i64 a)/\w'.cell? ⟨q,1,none⟩=some (.int .i64 b):=by
  have hts:¬(1000:Int)<text.size:=by omega
  go_enter Tryz.func19,Tryz.ntmps19
  go_wp2_with fail;refine(pR hw hs (by omega) hp).mono ?_;rintro e w1 ⟨p,rfl,pt,k1⟩;obtain⟨g,c,hcd1⟩:=hcd _ _ _ pt;have HCD:=hid (And.intro hcd1 (And.intro pt.c1 pt.c2));clear hcd1 pt hp hcd;go_wp2_with fail;refine(DT (bg:=bg) (G:=0) HCD.out.1 HCD.out.2.1 HCD.out.2.2 hbg hn (by omega) (by omega)).mono ?_;rintro e w2 ⟨k2,s',runs,hr⟩;obtain⟨h1,h2,h3⟩:=hres s' runs;have H1:=hid (And.intro h1 (And.intro h2 h3));clear hres runs h1 h2 h3;rcases hr with⟨hfd,rfl⟩|⟨hfd,b,z,rfl,hc⟩
  .rw[H1.out.1] at hfd;cases hfd
  .go_wp2_with fail;go_ret3
   exact⟨k1.trans k2,b,z,rfl,by rw[hc 0 (by omega),H1.out.2.1],by rw[hc 1 (by omega),H1.out.2.2]⟩
 have hneg:¬(a:Int)<0:=by omega
 have HM:=hid hm;clear hm hp hcd hres;go_enter Tryz.func20,Tryz.ntmps20
 go_wp2_with fail;refine HM.out.mono ?_;rintro e w1 ⟨k1,q,z,rfl,c0,c1⟩;go_wp2_with fail;go_ret;exact⟨rfl,k1⟩
def abbc:ByteArray:=⟨#[97,98,98,99]⟩
def Lf:ByteArray:=⟨#[98,43]⟩
