import Derived.Test.YtiahkfoojjpaaaaGreatDoorU21
import Derived.Test.YtiahkfoojjpaaaaGreatDoorU25
import Derived.Test.YtiahkfoojjpaaaaGreatDoorU26
set_option maxRecDepth 100000
set_option maxHeartbeats 16000000
set_option linter.all false
namespace Go.Proofs.YtiahkfoojjpaaaaGreatDoor
open Go.RowKit
def SmP (text:ByteArray) (p:Pi) (M:Nat->Rl):Prop:=Sm text p.len p.dd p.em M
section
variable {text:ByteArray} {A B C:Rl} {i tk j tk':Nat} {x x':Nat->Int}
theorem uO (h:∀ i tk x j tk' x',A i tk x j tk' x' ↔ B i tk x j tk' x'):A=B:=by
 funext i tk x j tk' x'
 exact propext (h i tk x j tk' x')
theorem Dj:qq (qq A B) C=qq A (qq B C):=uO fun _ _ _ _ _ _=>
 ⟨fun ⟨_,_,_,⟨_,_,_,a,b⟩,c⟩=>⟨_,_,_,a,_,_,_,b,c⟩,fun ⟨_,_,_,a,_,_,_,b,c⟩=>⟨_,_,_,⟨_,_,_,a,b⟩,c⟩⟩
theorem mSeq_id:qq A mId=A:=uO fun _ _ _ _ _ _=>
 ⟨fun ⟨_,_,_,a,h1,h2,h3⟩=>by rw [h1,h2,h3];exact a,fun a=>⟨_,_,_,a,rfl,rfl,rfl⟩⟩
theorem id_mSeq:qq mId A=A:=uO fun _ _ _ _ _ _=>
 ⟨fun ⟨_,_,_,⟨h1,h2,h3⟩,a⟩=>by rw [h1,h2,h3] at a;exact a,fun a=>⟨_,_,_,⟨rfl,rfl,rfl⟩,a⟩⟩
def Dk:List (Nat->Rl)->Nat->Rl
 | [],_=>mId
 | m::ms,d=>qq (m d) (Dk ms d)
theorem xg (m:Nat->Rl) (d:Nat):∀ l:List (Nat->Rl),MO (l++[m]) d=qq (m d) (MO l d)
 | []=>by show qq mId (m d)=qq (m d) mId;rw [mSeq_id,id_mSeq]
 | n::l=>by
  show qq (MO (l++[m]) d) (n d)=qq (m d) (qq (MO l d) (n d));rw [xg m d l,Dj]
theorem Bw (d:Nat):∀ l:List (Nat->Rl),MO l.reverse d=Dk l d
 | []=>rfl
 | m::l=>by rw [List.reverse_cons,xg,Bw d l];rfl
theorem BB (l:List It):dB l.reverse=dB l:=by unfold dB;rw [OA,List.sum_reverse]
theorem zR:∀ l:List It,ddL l.reverse=ddL l
 | []=>rfl
 | p::l=>by
  rw [List.reverse_cons,qF,zR l];show max (ddL l) (max p.dd 0)=max p.dd (ddL l);omega
theorem smP_one (m:Nat->Bool):SmP text (Gs m) (mOne text m):=sm_one m
theorem JT (k:Nat) (hk:k=1\/k=2):SmP text (Bj k) (fun _=>Kx text k):=sm_edge k hk
theorem Ff {g:Nat} {p:Pi} {M:Nat->Rl} (h:SmP text p M) (hg0:1<=g) (hg:g<=9):SmP text (iO g p) (fun d=>Bx g (M d)):=JS (len:=p.len) h hg0 hg
theorem smP_rep {p:Pi} {M:Nat->Rl} (h:SmP text p M) (least:Nat) (most:Option Nat) (hok:∀ m,most=some m->least<=m):SmP text (lO p least most) (mRep M least most):=by
 have q:=sm_rep (len:=p.len) h least most hok
 cases most with
 | none=>exact q
 | some m=>exact q
abbrev Mn:=Pi×(Nat->Rl)
theorem smP_row (l:List Mn) (h:∀ p∈l,SmP text p.1 p.2):SmP text (gi (l.map (·.1))) (Dk (l.map (·.2))):=by
 have q:=MC (text:=text) ((l.map fun p=>(p.1.it,p.2)).reverse) (fun p hp=>by
  obtain ⟨r,hr,rfl⟩:=List.mem_map.1 (List.mem_reverse.1 hp)
  exact h r hr)
 rw [OA,OA,BB,zR,Oi,Oi] at q;have e2:MO (l.map ((·.2) ∘ fun p:Mn=>(p.1.it,p.2))).reverse=Dk (l.map (·.2)):=by
  funext d
  rw [Bw]
  rfl
 rw [e2] at q;unfold SmP gi uN It.pi;rw [Oi];exact q
def MP (l:List (Nat->Rl)) (d:Nat):Rl:=fun i tk x j tk' x'=>∃ m∈l,m d i tk x j tk' x'
theorem Hf (d:Nat):∀ (l:List (Nat->Rl)) (B:Rl),mBr l B d i tk x j tk' x' ↔ MP l d i tk x j tk' x'\/B i tk x j tk' x'
 | [],B=>⟨fun h=>.inr h,fun h=>by
  rcases h with ⟨_,hm,_⟩ | h
  .cases hm
  .exact h⟩
 | m::l,B=>by
  show mBr l (mOr (m d) B) d i tk x j tk' x' ↔ _;rw [Hf d l];constructor
  .rintro (⟨m',hm,h⟩ | h | h)
   .exact .inl ⟨m',by simp [hm],h⟩
   .exact .inl ⟨m,by simp,h⟩
   .exact .inr h
  .rintro (⟨m',hm,h⟩ | h)
   .rcases List.mem_cons.1 hm with rfl | hm
    .exact .inr (.inl h)
    .exact .inl ⟨m',hm,h⟩
   .exact .inr (.inr h)
theorem tj {l:List (Nat->Rl)} (hl:l≠[]) (d:Nat):js l d=MP l d:=by
 cases l with
 | nil=>exact absurd rfl hl
 | cons m l=>
  refine uO fun i tk x j tk' x'=>?_;show mBr l (m d) d i tk x j tk' x' ↔ _;rw [Hf];constructor
  .rintro (⟨m',hm,h⟩ | h)
   .exact ⟨m',by simp [hm],h⟩
   .exact ⟨m,by simp,h⟩
  .rintro ⟨m',hm,h⟩;rcases List.mem_cons.1 hm with rfl | hm
   .exact .inr h
   .exact .inl ⟨m',hm,h⟩
theorem Ky (l:List (Nat->Rl)) (d:Nat):MP l.reverse d=MP l d:=uO fun _ _ _ _ _ _=>
 ⟨fun ⟨m,hm,h⟩=>⟨m,List.mem_reverse.1 hm,h⟩,fun ⟨m,hm,h⟩=>⟨m,List.mem_reverse.2 hm,h⟩⟩
theorem uH (l:List Mn) (hl:l≠[]) (h:∀ p∈l,SmP text p.1 p.2):SmP text (aW (l.map (·.1))) (MP (l.map (·.2))):=by
 have key:∀ L:List (It×(Nat->Rl)),L≠[]->(∀ p∈L,Sm text p.1.len p.1.dd p.1.em p.2)->Sm text (dB (L.map (·.1))+(L.length - 1)) (ddL (L.map (·.1))) (dv (L.map (·.1))) (js (L.map (·.2))):=fun L hL hh=>by
  cases L with
  | nil=>exact absurd rfl hL
  | cons p L=>exact yw p L hh
 have q:=key ((l.map fun p=>(p.1.it,p.2)).reverse) (by simpa using hl) (fun p hp=>by
  obtain ⟨r,hr,rfl⟩:=List.mem_map.1 (List.mem_reverse.1 hp)
  exact h r hr)
 rw [OA,OA,BB,zR,Oi,Oi,List.length_reverse,N9] at q;have e2:js (l.map ((·.2) ∘ fun p:Mn=>(p.1.it,p.2))).reverse=MP (l.map (·.2)):=by
  funext d
  rw [tj (by simpa using hl),Ky]
  rfl
 rw [e2] at q;unfold SmP aW dZ It.pi;rw [Oi,N9];exact q
end
end Go.Proofs.YtiahkfoojjpaaaaGreatDoor
namespace Go.Proofs.YtiahkfoojjpaaaaGreatDoor
open Go.RowKit Go.MapKept
section
variable {w0 w:World} {b k:Nat} {src:ByteArray} {σ:Sst}
theorem oH {n:Nat}:∀ (cs:List (List Value)) (i j:Nat) (c:List Value),(∀ c∈cs,c.length=n)->cs[i]? = some c->j < n->cs.flatten[i * n+j]? = c[j]?
 | [],i,_,_,_,h,_=>by simp at h
 | d::cs,0,j,c,hl,h,hj=>by
  injection h with h;subst h;have:=hl d (by simp);rw [On,OT,NJ,Ob (by omega)]
 | d::cs,i+1,j,c,hl,h,hj=>by
  have:=hl d (by simp);rw [On,NR (by rw [this,NZ];omega),this,show (i+1) * n+j - n=i * n+j by rw [NZ];omega];exact oH cs i j c (fun c hc=>hl c (by simp [hc])) h hj
theorem Sr.oO {i j g cap:Nat} {c:List Value} (h:Sr w0 w b src k σ) (hv:σ.vc=.slice (some ⟨g,0,none⟩) σ.cs.length cap) (hi:σ.cs[i]? = some c) (hj:j < 23):w.cell? ⟨g,i * 23+j,none⟩=c[j]?:=by
 have hlt:i < σ.cs.length:=(List.getElem?_eq_some_iff.1 hi).1;have o4:=h.r.o4;rw [hv] at o4;rw [o4.cellAt (i * 23+j) (by omega)];exact oH σ.cs i j c (fun c hc=>(h.r.len c hc).1) hi hj
theorem F7 {ci pl n j:Nat} {c:List Value} {x:ByteArray} (hs:Sr w0 w b src k σ) (hc:σ.cs[ci]? = some c) (hx:c[4]? = some (.string x)) (hne:(x.toList == [])=false) (hf:Instr.findNow .string (.string x) (strE 0 σ.ls) 0=some (some (j,.int .i64 (n:Int)))) :
  Calls Tryz.prog 106 #[.pointer (some ⟨b,0,none⟩),.agg #[.int .i64 (ci:Int),.int .i64 (pl:Int)]] w fun r w'=>r=.returned (.tuple #[])/\Sr w0 w' b src k { σ with cs:=σ.cs.set ci (c.set 5 (.int .i64 (n:Int))) }:=by
 have hilt:ci < σ.cs.length:=(List.getElem?_eq_some_iff.1 hc).1;obtain ⟨g,cap,ev⟩:=fq hs.r.o4 (by omega);have ka:=Kp.alloc [] w (.cells #[.int .i64 (ci:Int),.int .i64 (pl:Int)] 164);have BG:=Bl.alloc w [.int .i64 (ci:Int),.int .i64 (pl:Int)] 164;have s1:=hs.aj ka;have HF:=hid hf;have HEV:=hid ev;clear hf hs;go_enter Tryz.func106,Tryz.ntmps106
 go_upto_region 1 with fail
 obtain ⟨gb,hgb⟩:∃ gb,gb=w.heap.size:=⟨_,rfl⟩;obtain ⟨w1,hw1⟩:∃ w1,w1=w.alloc (.cells #[.int .i64 (ci:Int),.int .i64 (pl:Int)] 164):=⟨_,rfl⟩;rw [<-hgb,<-hw1] at BG;rw [<-hw1] at s1;rw [<-hgb,<-hw1];clear hgb hw1 ka;have c4:=s1.c.c4;rw [ev] at c4;have d0:=BG.at_ 0 _ rfl;clear ev;go_quiet (fail);have s2:=s1.aj (Kp.drewN [] w1 nq);obtain ⟨w2,hw2⟩:∃ w2,w2=w1.drewN nq:=⟨_,rfl⟩;rw [<-hw2] at s2 ⊢;clear hw2 s1 BG c4 d0;have d4:=(s2.oO HEV.out hc (j:=4) (by omega)).trans hx;go_upto_region 4 with fail
 have c9:=s2.c.c9;have hlk:∀ m',(Instr.lookup 124 (.map (some σ.lb)) (.string x) true).run Tryz.prog (w2.drewN m')=.ok (.tuple #[.int .i64 (n:Int),.bool true]) (w2.drewN m'):=fun m'=>
  jQ Tryz.underlying124 Tryz.underlying9 (((Kp.drewN [] w2 m').block _ (s2.r.bk.hi 2 _ rfl) (by simp)).trans s2.r.m9) HF.out
 go_quiet (fail);have s3:=s2.aj (Kp.drewN [] w2 nq);obtain ⟨w3,hw3⟩:∃ w3,w3=w2.drewN nq:=⟨_,rfl⟩;rw [<-hw3] at s3 ⊢;clear hw3 hlk c9 d4 s2;obtain ⟨u5,d5⟩:∃ u,w3.cell? ⟨g,ci * 23+5,none⟩=some u:=by
  have hl5:5 < c.length:=by rw [(s3.r.len c (NM hc)).1];omega
  exact ⟨_,(s3.oO HEV.out hc (j:=5) (by omega)).trans (Nv hl5)⟩
 have f5:w3.frozen? ⟨g,ci * 23+5,none⟩=false:=by
  have o4:=s3.r.o4;rw [HEV.out] at o4;exact o4.frozenAt _
 have S4:=hid (s3.Fj (i:=ci) (j:=5) (v:=.int .i64 (n:Int)) HEV.out hc (by omega) rfl);go_wp2_with fail;go_end0;exact ⟨rfl,S4.out⟩
end
end Go.Proofs.YtiahkfoojjpaaaaGreatDoor
namespace Go.Proofs.YtiahkfoojjpaaaaGreatDoor
open Go.RowKit
theorem E0 {P:Program} {ops:Array Oper} {o:Oper} {a:Act} {w:World} {K:Act->World->Prop} {Q:Exit->Act->World->Prop} {E:Prop} (hgd:o.guard=none) (sl x:Operand) (t u:TypeId)
  (ho:o.op=.call { callee:=.builtin .append,args:=#[sl,x],argTypes:=#[t,u] })
  (base:Nat) (e:TypeId) (i:TypeInfo) (ht:P.underlying t=some (.slice e)) (hu:P.underlying u=some .string) (hi:P.info? e=some i) (hz:i.zero=some (.int .u8 0)) (hsize:i.size=1) (hby:i.bytes=1)
  (v:Value) (n:Nat) (xs:List Value) (hs:a.eval sl=v) (hown:w.ownsRow base e 1 v n xs) (s:ByteArray) (hx:a.eval x=.string s) (h63:n+s.size<=1000000) (hbase:base<=w.heap.size)
  (h:∀ v' w',w'.ownsRow base e 1 v' (n+s.size) (xs++Lib.byteCells s.data.toList)->w.grownBy w' v.ownBlock->(∀ g,v'.ownBlock=some g->v.ownBlock=some g\/w.heap.size<=g)->K (a.put o.dst v') w') :
  if Region.wanted o (yielded ops a.tmps)=true then Oper.wp P o a w K Q else E:=by
 have hw:Region.wanted o (yielded ops a.tmps)=true:=by simp [Region.wanted,hgd]
 rw [Ny hw];obtain ⟨v',w',hr,h2,h3,h4⟩:=A9 (P:=P) (ty:=o.type) ht hu hi hz hsize hby hown s h63 hbase;unfold Oper.wp;simp [execOp,ho,resolve,invoke,builtin,hs,hx,hr,Result.andThen];exact h v' w' h2 h3 h4
structure Aw (lo:Nat) (w:World) (v:Value) (xs:List UInt8) (w':World) (v':Value) (ys:List UInt8):Prop where
 row:w'.ownsRow lo 5 1 v' ys.length (Lib.byteCells ys)
 kp:Kp v.ownBlock.toList w w'
 at_:∀ g,v'.ownBlock=some g->v.ownBlock=some g\/w.heap.size<=g
 lo:lo<=w'.heap.size
theorem Aw.refl {lo:Nat} {w:World} {v:Value} {xs:List UInt8} (h:w.ownsRow lo 5 1 v xs.length (Lib.byteCells xs)) (hl:lo<=w.heap.size):Aw lo w v xs w v xs:=⟨h,Kp.refl _ _,fun _ e=>.inl e,hl⟩
theorem Aw.aj {lo:Nat} {w w1 w2:World} {v v1:Value} {xs ys:List UInt8} (h:Aw lo w v xs w1 v1 ys) (k:Kp [] w1 w2):Aw lo w v xs w2 v1 ys:=
 ⟨ag h.row (fun p hp=>k.block p (az h.row hp).2 (by simp)),h.kp.trans (k.mono (by simp)),h.at_,Nx h.lo k.size⟩
theorem Aw.more {lo:Nat} {w w1 w2:World} {v v1 v2:Value} {xs ys zs:List UInt8} (h:Aw lo w v xs w1 v1 ys) (ho:w2.ownsRow lo 5 1 v2 (ys.length+zs.length) (Lib.byteCells ys++Lib.byteCells zs)) (hg:w1.grownBy w2 v1.ownBlock) (hl:∀ g,v2.ownBlock=some g->v1.ownBlock=some g\/w1.heap.size<=g):Aw lo w v xs w2 v2 (ys++zs):=by
 have e:Lib.byteCells (ys++zs)=Lib.byteCells ys++Lib.byteCells zs:=by simp [Lib.byteCells]
 have kg:=aR (S:=v1.ownBlock.toList) hg (fun p hp=>by rw [hp];simp);refine ⟨by rw [e,Nu];exact ho,h.kp.past kg (fun x hx=>?_),fun g e=>?_,Nx h.lo hg.size⟩
 .have hx:v1.ownBlock=some x:=by simpa using hx
  rcases h.at_ x hx with r | r
  .exact .inl (by simpa using r)
  .exact .inr r
 .rcases hl g e with r | r
  .exact h.at_ g r
  .exact .inr (Nx h.kp.size r)
theorem Aw.cell {lo:Nat} {w w1:World} {v v1:Value} {xs ys:List UInt8} (h:Aw lo w v xs w1 v1 ys) {p:Addr} {u:Value} (hc:w.cell? p=some u) (hn:v.ownBlock≠some p.block):w1.cell? p=some u:=
 (h.kp.cell (World.block_lt_of_cell? _ _ hc) (by simpa using hn)).trans hc
end Go.Proofs.YtiahkfoojjpaaaaGreatDoor
namespace Go.Proofs.YtiahkfoojjpaaaaGreatDoor
open Go.RowKit Go.Shelf
attribute [local go_sem] Oper.semAt_some
variable {Z:List (Nat×Obj)}
def ItsG (cd:Nat->In) (n D:Nat) (text:ByteArray) (bg:Nat):List (Nat->Int)->Nat->Mc->Prop
 | [],fr,s=>∀ s',Runs cd n D text bg (text.size+1 - fr) fr [] { s with fd:=false } s'->s'.fd=false
 | b::bs,fr,s=>∀ s',Runs cd n D text bg (text.size+1 - fr) fr [] { s with fd:=false } s'->s'.fd=true/\s'.eX=b/\∃ fr':Nat,b 1=(fr':Int)/\uns s'.sn 0 ((text.size+1) * (n * (D+1))) < uns s.sn 0 ((text.size+1) * (n * (D+1)))/\fr'<=text.size+1/\ItsG cd n D text bg bs fr' s'
theorem Gk {w:World} {p g c n D bg G bt bp l:Nat} {text:ByteArray} {cd:Nat->In} {bs:List (Nat->Int)} {CV:List Nat} {Bd:Nat->List (Nat×Obj)->World->Prop} {X:World->Prop} (hcd:Cd w p g c n D cd) (p1:w.cell? ⟨p,1,none⟩=some (.int .i64 bg)) (p2:w.cell? ⟨p,2,none⟩=some (.int .i64 G)) (hbg:bg < n) (hn:n * (D+1)<=9000) (hG:G<=9) (htx:text.size<=5000)
  (hbt:w.cell? ⟨bt,0,none⟩=some (.string text)) (hbp:w.cell? ⟨bp,0,none⟩=some (.pointer (some ⟨p,0,none⟩)))
  (hCV:∀ T∈CV,T < w.heap.size/\T≠p/\T≠g/\T≠bt/\T≠bp) (hIts:ItsG cd n D text bg bs 0 mc0)
  (hkeep:∀ i Z W W',Bd i Z W->(∀ j,j < w.heap.size->W'.heap[j]? = W.heap[j]?)->(∀ e∈Z,W'.heap[e.1]? = some e.2)->W'.os=W.os->W'.tape=W.tape->W'.output=W.output->Bd i Z W') (h0:Bd 0 [] w)
  (hY:∀ (W1:World) (f m i:Nat) (b:Nat->Int) (Z:List (Nat×Obj)),bs[i]? = some b->Bd i Z W1->W1.rangeAt f 8 (nf b)->w.heap.size<=f->(∀ e∈Z,e.1≠f) ->
    YieldAt Fence.wide m Tryz.prog l #[.slice (some ⟨f,8,none⟩) (2+2 * G) 20] W1 fun e W'=>∃ S Z2,Kp S W1 W'/\(∀ T∈S,T∈CV\/∃ o,(T,o)∈Z)/\(∀ e∈Z2,W'.heap[e.1]? = some e.2/\((∃ o,(e.1,o)∈Z)\/W1.heap.size<=e.1))/\((e=.returned (.bool true)/\Bd (i+1) Z2 W')\/(e=.returned (.bool false)/\X W'))) :
  Calls Tryz.prog 89 #[.func (.yield l) #[] #[],.pointer (some ⟨bt,0,none⟩),.pointer (some ⟨bp,0,none⟩)] w fun e w'=>(∃ v,e=.returned v)/\((∃ Z,Bd bs.length Z w')\/X w'):=by
 have HKEEP:=hid hkeep;have H0:=hid h0;have HI:=hid hIts;have HCV:=hid hCV;clear hkeep h0 hIts hCV;have HCD:=hid hcd;have P1:=hid p1;have P2:=hid p2;have HY:=hid hY;have p0:=hcd.p0;have p3:=hcd.p3;obtain ⟨Q,hQ⟩:∃ Q,Q=n * (D+1):=⟨_,rfl⟩;rw [<-hQ] at hn;obtain ⟨D1,hD1⟩:∃ D1:Nat,(D:Int)+1=D1:=⟨D+1,by omega⟩;obtain ⟨T1,hT1⟩:∃ T1:Nat,(text.size:Int)+1=T1:=⟨text.size+1,by omega⟩;obtain ⟨A1,hA1⟩:∃ A1:Nat,(T1:Int) * (n:Int)=A1:=⟨T1 * n,by push_cast;rfl⟩;obtain ⟨S1,hS1⟩:∃ S1:Nat,(A1:Int) * (D1:Int)=S1:=⟨A1 * D1,by push_cast;rfl⟩;have eS1:S1=(text.size+1) * Q:=by
  have e1:D1=D+1:=by omega
  have e2:T1=text.size+1:=by omega
  have e3:A1=T1 * n:=by exact_mod_cast hA1.symm
  have e4:S1=A1 * D1:=by exact_mod_cast hS1.symm
  rw [e4,e3,e2,e1,hQ,Nat.mul_assoc]
 have hS1b:S1<=46000000:=by
  rw [eS1];exact Nx (Ou (show text.size+1<=5001 by omega) hn) (by decide)
 have hDn:D1<=9000:=by
  have h1:=NN (D+1) (show 1<=n by omega);rw [<-hQ] at h1;omega
 have hA1b:A1<=S1:=by
  have e4:S1=A1 * D1:=by exact_mod_cast hS1.symm
  rw [e4];exact Nat.le_mul_of_pos_right _ (by omega)
 have w1:=aa D1 (by omega);have w2:=aa T1 (by omega);have w3:=aa A1 (by omega);have w4:=aa S1 (by omega);have HQ:=hid (And.intro hQ eS1);have HE:=hid (And.intro hD1 (And.intro hT1 (And.intro hA1 hS1)));clear hcd p1 p2 hY hQ eS1;go_enter Tryz.func89,Tryz.ntmps89
 go_wp2_with fail;go_quiet (fail);have kq:=Kp.drewN [] w nq;have qt:(w.drewN nq).cell? ⟨bt,0,none⟩=some (.string text):=hbt;have qp:(w.drewN nq).cell? ⟨bp,0,none⟩=some (.pointer (some ⟨p,0,none⟩)):=hbp;have hz:Hid ((w.drewN nq).heap.size=w.heap.size):=hid (by simp);generalize w.drewN nq=U at *;clear hbt hbp p0 p3 w1 w2 w3 w4 hD1 hT1 hA1 hS1;obtain ⟨N,hN⟩:∃ N:Nat,N=S1 / 64+1:=⟨_,rfl⟩;have hN2:Hid ((text.size+1) * Q<=64 * N):=hid (by rw [<-HQ.out.2];omega);have hNb:N<=1000000:=by omega
 obtain ⟨M1,hM1⟩:∃ M1:Nat,M1=S1 / 64:=⟨_,rfl⟩;have hdiv:(S1:Int) / 64=(M1:Int):=by omega
 have hsum:(M1:Int)+1=(N:Int):=by omega
 have wM:=aa M1 (by omega);clear hM1;have wN:=aa N (by omega);have hmk:=fun w=>qm w N hNb;have HN:=hid hN;clear hN;go_wp2_with fail;rename_i K1 hK1;have HK1:=hid hK1;clear hK1;refine wp_region_noPanic ?_;refine aA (fun w':World=>w'.cell? ⟨bp,0,none⟩=some (.pointer (some ⟨p,0,none⟩))/\w'.cell? ⟨bt,0,none⟩=some (.string text)) 8 (by kernel_rfl) ?_;have hS:(fun w':World=>w'.cell? ⟨bp,0,none⟩=some (.pointer (some ⟨p,0,none⟩))/\w'.cell? ⟨bt,0,none⟩=some (.string text)) U.drew:=⟨qp,qt⟩;iterate 5 (refine tkn (v:=?_) rfl (by kernel_rfl) (fun _ _ _ h=>h) ⟨rfl,fun w hSw=>?_⟩ hS ?_;rotate_left;(focus ((try dsimp only at hSw);go_simp;(try with_reducible rfl)));(try simp only [Nn,Nk,Nj,Act.put,Ni,Np,Nq]))
 refine eI (i:=5) (j:=7) (by kernel_rfl) rfl rfl (fun K hK=>?ga) (fun K hK=>?gb)
 case' ga=>
  go_simp;have hS1:(fun w':World=>w'.cell? ⟨bp,0,none⟩=some (.pointer (some ⟨p,0,none⟩))/\w'.cell? ⟨bt,0,none⟩=some (.string text)) ((U.alloc (.cells (zs N) 148)).drew):=⟨aE qp _,aE qt _⟩;refine hK.out _ _ (.inr hS1) ?_;clear hK K;refine tk1 6 (v:=?_) rfl (by kernel_rfl) (fun _ _ _ h=>h) ⟨rfl,fun w hSw=>?_⟩ hS1 ?_;rotate_left;· ((try dsimp only at hSw);go_simp;(try with_reducible rfl))
  (try simp only [Nn,Nk,Nj,Act.put,Ni,Np,Nq])
  refine ai (i:=7) (by kernel_rfl) rfl (fun K hK=>?_);go_simp;refine hK.out _ _ (.inr ⟨aE (w:=U.alloc (.cells (zs N) 148)) hS1.1 _,aE (w:=U.alloc (.cells (zs N) 148)) hS1.2 _⟩) ?_;clear hK K;refine ai (i:=8) (by kernel_rfl) rfl (fun K hK=>?_);rw [Ny (by rfl)];refine wp_store_mid 159 (.tmp 5) (.tmp 28) rfl (U.heap.size+1) 0 (gJ p text U.heap.size N).toArray rfl rfl ?hth Tryz.JM (all_oneCell_toArray (jw p text U.heap.size N)) ?_
  case hth=>(have:=Mt (U.alloc (.cells (zs N) 148));simpa using this)
  refine hK.out _ _ (.inl rfl) ?_;clear hK K;refine ax (by kernel_rfl) ?_ _;refine NoPanic.normal ?_;simp only [Nn,Nk,Nj,Act.put];have fs:Fg [] U ((((U.alloc (.cells (zs N) 148)).alloc (.cells z28 159)).drew).setCells (U.heap.size+1) 0 (gJ p text U.heap.size N).toArray.toList) (U.heap.size+1) p (U.heap.size) N 0 text [] (.slice none 0 0) (.slice none 0 0) (.slice none 0 0) mc0:=by
   refine BW ((Kp.alloc _ _ _).trans ((Kp.alloc _ _ _).trans (Kp.drew _ _))) (by omega) (by omega) (by omega) ?_ ?_ ?_ ?_ (fun e he=>by cases he)
   .have:=Mt (U.alloc (.cells (zs N) 148));simpa using this
   .intro i;simp
   .simp;omega
   .exact fun i hi=>⟨by have:=dR U (zs N) 148 i _ (pM N i hi);rw [NJ] at this;exact aE this _,(lj (by have:=dR U (zs N) 148 i _ (pM N i hi);rwa [NJ] at this) (by simp) _)⟩
  generalize (((U.alloc (.cells (zs N) 148)).alloc (.cells z28 159)).drew).setCells (U.heap.size+1) 0 (gJ p text U.heap.size N).toArray.toList=W at *;have hflo:w.heap.size<=U.heap.size+1:=by have:=hz.out;omega
  clear hS hS1;have hUz:Hid (U.heap.size=w.heap.size):=hz;obtain ⟨f,hfe⟩:∃ f,f=U.heap.size+1:=⟨_,rfl⟩;obtain ⟨sb,hsbe⟩:∃ sb,sb=U.heap.size:=⟨_,rfl⟩;rw [<-hfe,<-hsbe] at fs
 case' gb=>
  go_simp;have hS1:(fun w':World=>w'.cell? ⟨bp,0,none⟩=some (.pointer (some ⟨p,0,none⟩))/\w'.cell? ⟨bt,0,none⟩=some (.string text)) ((U.alloc (.cells z28 159)).drew):=⟨aE qp _,aE qt _⟩;refine hK.out _ _ (.inr hS1) ?_;clear hK K;refine ai (i:=5) (by kernel_rfl) rfl (fun K hK=>?_);go_simp;have hS2:(fun w':World=>w'.cell? ⟨bp,0,none⟩=some (.pointer (some ⟨p,0,none⟩))/\w'.cell? ⟨bt,0,none⟩=some (.string text)) (((U.alloc (.cells z28 159)).alloc (.cells (zs N) 148)).drew):=⟨aE (w:=U.alloc (.cells z28 159)) hS1.1 _,aE (w:=U.alloc (.cells z28 159)) hS1.2 _⟩;refine hK.out _ _ (.inr hS2) ?_;clear hK K;refine tk1 6 (v:=?_) rfl (by kernel_rfl) (fun _ _ _ h=>h) ⟨rfl,fun w hSw=>?_⟩ hS2 ?_;rotate_left;· ((try dsimp only at hSw);go_simp;(try with_reducible rfl))
  (try simp only [Nn,Nk,Nj,Act.put,Ni,Np,Nq])
  refine ai (i:=8) (by kernel_rfl) rfl (fun K hK=>?_);rw [Ny (by rfl)];refine wp_store_mid 159 (.tmp 5) (.tmp 28) rfl U.heap.size 0 (gJ p text (U.heap.size+1) N).toArray rfl rfl ?hth Tryz.JM (all_oneCell_toArray (jw p text (U.heap.size+1) N)) ?_
  case hth=>exact lS (Mt U) _
  refine hK.out _ _ (.inl rfl) ?_;clear hK K;refine ax (by kernel_rfl) ?_ _;refine NoPanic.normal ?_;simp only [Nn,Nk,Nj,Act.put];have hsB:(U.alloc (.cells z28 159)).heap.size=U.heap.size+1:=by simp
  have fs:Fg [] U ((((U.alloc (.cells z28 159)).alloc (.cells (zs N) 148)).drew).setCells U.heap.size 0 (gJ p text (U.heap.size+1) N).toArray.toList) (U.heap.size) p (U.heap.size+1) N 0 text [] (.slice none 0 0) (.slice none 0 0) (.slice none 0 0) mc0:=by
   refine BW ((Kp.alloc _ _ _).trans ((Kp.alloc _ _ _).trans (Kp.drew _ _))) (by omega) (by omega) (by omega) ?_ ?_ ?_ ?_ (fun e he=>by cases he)
   .exact lS (Mt U) _
   .intro i;simp
   .simp
   .exact fun i hi=>⟨by have:=dR (U.alloc (.cells z28 159)) (zs N) 148 i _ (pM N i hi);rw [NJ,hsB] at this;exact this,by show ((U.alloc (.cells z28 159)).alloc (.cells (zs N) 148)).frozen? _=false;have:=fun j=>(show ((U.alloc (.cells z28 159)).alloc (.cells (zs N) 148)).frozen? ⟨(U.alloc (.cells z28 159)).heap.size,j,none⟩=false by simp);rw [hsB] at this;exact this i⟩
  generalize (((U.alloc (.cells z28 159)).alloc (.cells (zs N) 148)).drew).setCells U.heap.size 0 (gJ p text (U.heap.size+1) N).toArray.toList=W at *;have hflo:w.heap.size<=U.heap.size:=by have:=hz.out;omega
  clear hS hS1 hS2 hsB;have hUz:Hid (U.heap.size=w.heap.size):=hz;obtain ⟨f,hfe⟩:∃ f,f=U.heap.size:=⟨_,rfl⟩;obtain ⟨sb,hsbe⟩:∃ sb,sb=U.heap.size+1:=⟨_,rfl⟩;rw [<-hsbe,<-hfe] at fs
 all_goals
  rw [<-hfe] at hflo ⊢;clear hfe hsbe;have FS:=hid fs;clear fs hmk wN wM hsum hdiv;refine HK1.out _ _ ?_;clear HK1 K1;obtain ⟨G2,hG2⟩:∃ G2:Nat,(2:Int) * (G:Int)=(G2:Int):=⟨2 * G,by push_cast;rfl⟩;obtain ⟨mm,hm⟩:∃ mm:Nat,(2:Int)+(G2:Int)=(mm:Int):=⟨2+G2,by push_cast;rfl⟩;have wg:=aa G2 (by omega);have wm:=aa mm (by omega);have hm20:mm<=20:=by omega
  have HMM:Hid (2+2 * G=mm):=hid (by omega);have hsl:∀ V:World,(Instr.sliceAt 157 (.pointer (some ⟨f,8,none⟩)) none (some (.int .i64 (mm:Int))) none).run Tryz.prog V=.ok (.slice (some ⟨f,8,none⟩) mm 20) V:=fun V=>jO V f mm hm20;have BD0:Hid (Bd 0 [] W):=hid (HKEEP.out 0 [] w W H0.out (fun j hj=>(kq.trans FS.out.kp).block j hj (by simp)) (fun e he=>by cases he) (kq.trans FS.out.kp).os (kq.trans FS.out.kp).tape (kq.trans FS.out.kp).output);have HU:Hid (Cd U p g c n D cd/\U.cell? ⟨p,1,none⟩=some (.int .i64 bg)/\U.cell? ⟨p,2,none⟩=some (.int .i64 G)):=hid ⟨HCD.out.aj kq,(kq.cell (p:=⟨p,1,none⟩) HCD.out.hp (by simp)).trans P1.out,(kq.cell (p:=⟨p,2,none⟩) HCD.out.hp (by simp)).trans P2.out⟩;have QT:=hid (And.intro qp qt);clear qp qt;obtain ⟨M,hM⟩:∃ M,M=(text.size+1) * (n * (D+1)):=⟨_,rfl⟩;have HMN:Hid (0+M<=64 * N):=hid (by rw [hM,<-HQ.out.1,NJ];exact hN2.out);have HM:=hid hM;clear hM;refine (wpIn_wide (n:=3)).1 ?_
  gi_wp2
  gi_loopw [6] (fun v wr=>∃ (fr i:Nat) (Z:List (Nat×Obj)) (wb:World) (s:Mc) (pl:Nat) (u3 u4 u5:Value),v=.int .i64 fr/\fr<=text.size+1/\i<=bs.length/\Hid (Fg Z wb wr f p sb N pl text [] u3 u4 u5 s)/\Hid (s.left=[]/\s.ahead=[])/\Hid (wb.heap.size=w.heap.size)/\Hid (Cd wb p g c n D cd/\wb.cell? ⟨p,1,none⟩=some (.int .i64 bg)/\wb.cell? ⟨p,2,none⟩=some (.int .i64 G))/\Hid (wb.cell? ⟨bp,0,none⟩=some (.pointer (some ⟨p,0,none⟩))/\wb.cell? ⟨bt,0,none⟩=some (.string text))/\Hid (Bd i Z wr)/\Hid (ItsG cd n D text bg (bs.drop i) fr s)/\Hid (∀ e∈Z,w.heap.size<=e.1)) (fun _ wr=>Ju wr sb 0 M)
  case atStart=>exact ⟨0,0,[],U,mc0,0,_,_,_,rfl,by omega,by omega,FS,hid ⟨rfl,rfl⟩,hUz,HU,QT,BD0,HI,hid (fun e he=>by cases he)⟩
  case round=>
   clear FS BD0 HU QT HI;obtain ⟨fr,i,Z,wb,s,pl,u3,u4,u5,rfl,hfr,hib,FS,HL,HB,HCW,HCE,HBD,HIT,HZL⟩:=hrel
   gi_wp2_with fail
   refine ⟨trivial,?_⟩;refine (callsIn_wide.2 (jP (fr:=fr) FS.out HL.out.1 HL.out.2 HCW.out.1 HCW.out.2.1 hbg (by rw [<-HQ.out.1];exact hn) (by rw [<-HQ.out.1];exact hN2.out) hNb htx hfr)).mono ?_;rintro e W1 ⟨s',pl',x3,x4,x5,rfl,fg,hl1,ha1,runs⟩;have FG:=hid fg;have RU:=hid runs;have HLA:=hid (And.intro hl1 ha1);have b0:=(fg.kp.cell (p:=⟨bp,0,none⟩) (World.block_lt_of_cell? _ _ HCE.out.1) (by simp)).trans HCE.out.1;have b2:=(fg.kp.cell (p:=⟨p,2,none⟩) HCW.out.1.hp (by simp)).trans HCW.out.2.2;have BD1:Hid (Bd i Z W1):=hid (HKEEP.out i Z _ W1 HBD.out (fun j hj=>(fg.kp.block j (by rw [HB.out];exact hj) (by simp)).trans (FS.out.kp.block j (by rw [HB.out];exact hj) (by simp)).symm) (fun e he=>(fg.fx e he).1) (fg.kp.os.trans FS.out.kp.os.symm) (fg.kp.tape.trans FS.out.kp.tape.symm) (fg.kp.output.trans FS.out.kp.output.symm));clear runs fg hl1 ha1;obtain ⟨fdv,hfdv⟩:∃ b,s'.fd=b:=⟨_,rfl⟩;rw [hfdv]
   have hit:=HIT.out
   cases fdv with
   | false=>
    have HE:Hid (i=bs.length):=hid (by
     by_cases q:i < bs.length
     .rw [NY q] at hit;have:=(hit s' RU.out).1;rw [hfdv] at this
      cases this
     .omega)
    clear hit
    gi_wp2
    go_end0;exact ⟨⟨_,rfl⟩,.inl ⟨Z,by rw [<-HE.out];exact BD1.out⟩⟩
   | true=>
    by_cases q:i < bs.length
    case neg=>
     rw [OB (by omega)] at hit;have:=hit s' RU.out;rw [hfdv] at this
     cases this
    rw [NY q] at hit;obtain ⟨_,hbest,fr',hb1,hun,hle,hits⟩:=hit s' RU.out;have HUN:Hid (uns s'.sn 0 M < uns s.sn 0 M):=hid (by rw [HM.out];exact hun);clear hun;obtain ⟨fn,tmps,assign,body,hy,hR⟩:=HY.out W1 f 2 i bs[i] Z (Nv q) BD1.out (by rw [<-hbest];exact FG.out.eX) hflo (fun e he=>(FG.out.fx e he).2.1);rw [HMM.out] at hy;have HR:=hid hR;have HITS:=hid hits;have HB1:=hid (And.intro hbest hb1);clear hR hits hit hbest hb1
    gi_wp2
    refine HR.out.mono ?_;rintro e W2 ⟨S,Z2,kS,hS,hZ2,(⟨rfl,hB⟩ | ⟨rfl,hX⟩)⟩
    .have hS':∀ T∈S,T < wb.heap.size\/∃ o,(T,o)∈Z:=fun T hT=>by
      rcases hS T hT with r | r
      .exact .inl (by rw [HB.out];exact (HCV.out T r).1)
      .exact .inr r
     have fg2:=FG.out.Gf kS hS' hZ2;have nin:∀ x,x < w.heap.size->x∉CV->x∉S:=fun x hx hn m=>by
      rcases hS x m with r | ⟨o,r⟩
      .exact hn r
      .have:=HZL.out _ r;simp at this;omega
     have bk:∀ x,x < w.heap.size->x∉CV->(Ix W2 wb.heap.size).heap[x]? = wb.heap[x]?:=fun x hx hn=>
      (Cf (Nx FG.out.kp.size kS.size) (by rw [HB.out];exact hx)).trans ((kS.block x (Ns (by rw [HB.out];exact hx) FG.out.kp.size) (nin x hx hn)).trans (FG.out.kp.block x (by rw [HB.out];exact hx) (by simp)))
     have hpl:p < w.heap.size:=by rw [<-HB.out];exact HCW.out.1.hp
     have hgl:g < w.heap.size:=by rw [<-HB.out];exact HCW.out.1.hg
     have hbpl:bp < w.heap.size:=by rw [<-HB.out];exact World.block_lt_of_cell? _ _ HCE.out.1
     have hbtl:bt < w.heap.size:=by rw [<-HB.out];exact World.block_lt_of_cell? _ _ HCE.out.2
     have bkp:=bk p hpl (fun m=>(HCV.out p m).2.1 rfl);have bkg:=bk g hgl (fun m=>(HCV.out g m).2.2.1 rfl);have bkt:=bk bt hbtl (fun m=>(HCV.out bt m).2.2.2.1 rfl);have bkb:=bk bp hbpl (fun m=>(HCV.out bp m).2.2.2.2 rfl);have HC2:Hid (Cd (Ix W2 wb.heap.size) p g c n D cd/\(Ix W2 wb.heap.size).cell? ⟨p,1,none⟩=some (.int .i64 bg)/\(Ix W2 wb.heap.size).cell? ⟨p,2,none⟩=some (.int .i64 G)):=hid ⟨HCW.out.1.blocks bkp bkg,(World.cell?_of_block bkp).trans HCW.out.2.1,(World.cell?_of_block bkp).trans HCW.out.2.2⟩;have HE2:Hid ((Ix W2 wb.heap.size).cell? ⟨bp,0,none⟩=some (.pointer (some ⟨p,0,none⟩))/\(Ix W2 wb.heap.size).cell? ⟨bt,0,none⟩=some (.string text)):=hid ⟨(World.cell?_of_block bkb).trans HCE.out.1,(World.cell?_of_block bkt).trans HCE.out.2⟩
     have HZ2:Hid (∀ e∈Z2,w.heap.size<=e.1):=hid (fun e he=>by
      rcases (hZ2 e he).2 with ⟨o,r⟩ | r
      .exact HZL.out (e.1,o) r
      .have:=FG.out.kp.size;rw [HB.out] at this
       omega)
     have c9:W2.cell? ⟨f,8+1,none⟩=some (.int .i64 (fr':Int)):=by
      have:=fg2.eX 1 _ rfl;rw [this]
      congr 2
      rw [HB1.out.1];exact HB1.out.2
     have c9':W2.cell? ⟨f,9,none⟩=some (.int .i64 (fr':Int)):=c9;have F2:=hid fg2;have HSZ:Hid ((Ix W2 wb.heap.size).heap.size=w.heap.size):=hid ((jy (Nx FG.out.kp.size kS.size)).trans HB.out);have HBB:=hid hB;clear bk nin fg2 hS hS' hZ2 bkp bkg bkt bkb kS hB
     gi_wp2
     go_round
     case rel=>exact ⟨fr',i+1,Z2,_,s',pl',x3,x4,x5,rfl,hle,by omega,F2,HLA,HSZ,HC2,HE2,HBB,HITS,HZ2⟩
     case measure=>rw [F2.out.uns 0 M HMN.out,FS.out.uns 0 M HMN.out];exact HUN.out
    .gi_wp2
     refine bodyPost_ret (results_none rfl _ _ _) rfl ?_;exact ⟨⟨_,rfl⟩,.inr hX⟩
