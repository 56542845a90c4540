import Derived.Test.YtiahkfoojjpaaaaGreatDoorU04
import Derived.Deep.CutRange
set_option maxRecDepth 100000
set_option maxHeartbeats 16000000
set_option linter.all false
namespace Go.Proofs.YtiahkfoojjpaaaaGreatDoor
open Go.RowKit
theorem fY {P:Program} {w:World} {t k e:TypeId} {b c i:Nat} {es:Array MapEntry} {x:Int} {v:Value} (ht:P.underlying t=some (.map k e)) (hk:P.underlying k=some (.int .u8)) (hb:w.heap[b]? = some (.map es c)) (hf:Instr.findNow (.int .u8) (.int .u8 x) es.toList 0=some (some (i,v))) :
  (Instr.lookup t (.map (some b)) (.int .u8 x) true).run P w=.ok (.tuple #[v,.bool true]) w:=by
 have hkey:MapKept.IsKey (.int .u8) (.int .u8 x):=by simp [MapKept.IsKey]
 simp [Instr.lookup,run_underlying ht,MapKept.run_getObj_map hb,MapKept.run_checkKey hk hkey,MapKept.run_findKey hk hf,Result.andThen]
def Enters (f:Nat):Prop:=∀ p q w,(callFunc f #[p,q]).run Tryz.prog w=.ok (.enter f #[p,q]) w
structure Cv (cv:List Value):Prop where
 len:cv.length=23
 one:∀ u∈cv,u.oneCell'=true
theorem Cv.set {cv:List Value} (h:Cv cv) (j:Nat) {v:Value} (hv:v.oneCell'=true):Cv (cv.set j v):=
 ⟨by simpa using h.len,fun u hu=>by
   rcases Ow hu with q | q
   .exact h.one u q
   .rw [q];exact hv⟩
def Cz (cv:List Value):Prop:=cv.drop 4=[.string ⟨#[]⟩,.int .i64 0,.string ⟨#[]⟩,.int .i64 0,.int .i64 0,.string ⟨#[]⟩,.string ⟨#[]⟩,.pointer none,.string ⟨#[]⟩,.string ⟨#[]⟩,.string ⟨#[]⟩,.slice none 0 0,.bool false,.int .i64 0,.bool false,.string ⟨#[]⟩,.string ⟨#[]⟩,.string ⟨#[]⟩,.string ⟨#[]⟩]
theorem Cz.set3 {cv:List Value} (h:Cz cv) (v:Value):Cz (cv.set 3 v):=by
 unfold Cz at h ⊢;rw [List.drop_set_of_lt (by omega)];exact h
theorem Cz.at_ {cv:List Value} (_:Cz cv) (j:Nat):cv[4+j]? = (cv.drop 4)[j]?:=by rw [List.getElem?_drop]
def OpOk (w0:World) (f b:Nat) (src:ByteArray) (k e:Nat) (R:Sst->List Value->Sst->List Value->Prop):Prop:=
 ∀ w σ cb cv,Sr w0 w b src k σ->Bl w cb cv->Cv cv->Cz cv->Sr.Far w0 b σ cb->Small σ 2000 ->
  Calls Tryz.prog f #[.pointer (some ⟨b,0,none⟩),.pointer (some ⟨cb,0,none⟩)] w fun r w'=>∃ σ' cv',r=.returned (.tuple #[])/\Sr w0 w' b src e σ'/\Bl w' cb cv'/\Cv cv'/\Sr.Far w0 b σ' cb/\R σ cv σ' cv'
def Cs (w0:World) (f b:Nat) (src:ByteArray) (k e:Nat) (σ:Sst) (R:Sst->List Value->Sst->List Value->Prop):Prop:=
 ∀ w cb cv,Sr w0 w b src k σ->Bl w cb cv->Cv cv->Cz cv->Sr.Far w0 b σ cb->Small σ 2000 ->
  Calls Tryz.prog f #[.pointer (some ⟨b,0,none⟩),.pointer (some ⟨cb,0,none⟩)] w fun r w'=>∃ σ' cv',r=.returned (.tuple #[])/\Sr w0 w' b src e σ'/\Bl w' cb cv'/\Cv cv'/\Sr.Far w0 b σ' cb/\R σ cv σ' cv'
theorem OpOk.at_ {w0:World} {f b:Nat} {src:ByteArray} {k e:Nat} {R:Sst->List Value->Sst->List Value->Prop} (h:OpOk w0 f b src k e R) (σ:Sst):Cs w0 f b src k e σ R:=fun w cb cv=>h w σ cb cv
theorem Db (w0:World) (b:Nat) (src:ByteArray) (k:Nat):OpOk w0 101 b src k k (fun σ cv σ' cv'=>σ'=σ/\cv'=cv):=by
 intro w σ cb cv hs hb hl _ hf _;go_enter Tryz.func101,Tryz.ntmps101
 go_wp2;go_end0;exact ⟨σ,cv,rfl,hs,hb,hl,hf,rfl,rfl⟩
theorem GK (w0:World) {b:Nat} {src:ByteArray} {k n x e:Nat} (h:numN src 0 255 (blk src k) n 0 (blk src k)=some (x,e)):OpOk w0 99 b src k e (fun σ cv σ' cv'=>σ'=σ/\cv'=cv.set 8 (.int .i64 x)):=by
 intro w σ cb cv hs hb hl _ hf _;have H:=hid h;clear h;have hlt:=hs.cur.lt;have hne:cb≠b:=fun e=>hf.bk 0 (by rw [e];rfl);go_enter Tryz.func99,Tryz.ntmps99
 go_wp2_with fail;refine (dH hs.cur).mono ?_;rintro r w1 ⟨rfl,h1,m1⟩;go_wp2_with fail;refine (rU (lo:=0) (hi:=255) h1 (by omega) H.out).mono ?_;rintro r w2 ⟨rfl,h2,m2⟩;have m12:=m1.trans m2;have b2:=hb.aj m12.kp (by simpa using hne);have f8:=b2.free 8;have hx8:8 < cv.length:=by rw [hl.len];omega
 have c8:=b2.at_ 8 _ (Nv hx8);go_wp2_with fail;go_end0;have k3:Kp [cb] w2 (w2.setCell ⟨cb,8,none⟩ (.int .i64 x)):=Kp.setCell _ _ (by simp);exact ⟨σ,_,rfl,(hs.move m12 h2).other k3 (fun y hy=>by simp at hy;rw [hy];exact hf),b2.set 8 _ hx8,hl.set 8 rfl,hf,rfl,rfl⟩
theorem what_v {w0 w:World} {b cb:Nat} {src:ByteArray} {k e f i x n c:Nat} {A:Option Addr} {nt:Bool} {σ:Sst} {cv:List Value} {R:Sst->List Value->Sst->List Value->Prop} (hs:Sr w0 w b src k σ) (hb:Bl w cb cv) (hl:Cv cv) (hz:Cz cv) (hf:Sr.Far w0 b σ cb) (hsl:Small σ 2000)
  (hk:k < src.size) (hx:(src[k]).toNat=x) (ht:Instr.findNow (.int .u8) (.int .u8 x) (tabE 0 opsL) 0=some (some (i,.func (.func f) #[] #[]))) (h0:cv[0]? = some (.slice A n c)) (h2:cv[2]? = some (.bool nt))
  (hbare:(x=125\/x=58)->n=0/\nt=false) (ho:Cs w0 f b src (k+1) e σ R) (hce:Enters f) :
  Calls Tryz.prog 152 #[.pointer (some ⟨b,0,none⟩),.pointer (some ⟨cb,0,none⟩)] w fun r w'=>∃ σ' cv',r=.returned (.tuple #[])/\Sr w0 w' b src e σ'/\Bl w' cb cv'/\Cv cv'/\Sr.Far w0 b σ' cb/\R σ (cv.set 3 (.int .u8 x)) σ' cv':=by
 have hlt:=hs.cur.lt;have hne:cb≠b:=fun e=>hf.bk 0 (by rw [e];rfl);have he:((k:Int) == (src.size:Int))=false:=by simp;omega
 have c5:(⟨src.data⟩:ByteArray)[k].toNat=x:=hx;have HT:=hid ht;have HO:=hid ho;have HB:=hid hbare;clear ht ho hbare hx;go_enter Tryz.func152,Tryz.ntmps152
 go_wp2_with fail;refine (dk hs.cur he).mono ?_;rintro r w1 ⟨rfl,h1,m1⟩;have s1:=hs.move m1 h1;have b1:=hb.aj m1.kp (by simpa using hne);have d0:=h1.c0;have d1:=h1.c1;have f3:=b1.free 3;have g3:=b1.at_ 3 _ (Nv (show 3 < cv.length by rw [hl.len];omega));go_upto_region 2 with fail
 go_cut [4] from 15 (fun _ wx=>wx=w1.drew.setCell ⟨cb,3,none⟩ (.int .u8 x))
 case first=>
  go_region
  all_goals
   go_wp2_with fail;go_meet
   case rel=>rfl
 case rest=>
 subst hcut;obtain ⟨w2,hw2⟩:∃ w2,w2=w1.drew.setCell ⟨cb,3,none⟩ (.int .u8 x):=⟨_,rfl⟩;rw [<-hw2];have k2:Kp [cb] w1 w2:=by rw [hw2];exact (Kp.drew _ _).trans (Kp.setCell _ _ (by simp))
 have s2:Sr w0 w2 b src k σ:=s1.other k2 (fun y hy=>by simp at hy;rw [hy];exact hf);have b2:Bl w2 cb (cv.set 3 (.int .u8 x)):=by rw [hw2];exact (b1.aj (Kp.drew [] _) (by simp)).set 3 _ (by rw [hl.len];omega)
 have l2:Cv (cv.set 3 (.int .u8 x)):=hl.set 3 rfl;have z2:Cz (cv.set 3 (.int .u8 x)):=hz.set3 _;obtain ⟨cv2,hcv2⟩:∃ cv2,cv2=cv.set 3 (Value.int .u8 x):=⟨_,rfl⟩;have q0:cv2[0]? = some (.slice A n c):=by rw [hcv2,NL (by omega)];exact h0
 have q2:cv2[2]? = some (.bool nt):=by rw [hcv2,NL (by omega)];exact h2
 have q3:cv2[3]? = some (.int .u8 x):=by rw [hcv2,NK (by rw [hl.len];omega)]
 rw [<-hcv2] at b2 l2 z2;have HCV:=hid hcv2;clear hcv2 hw2 k2 s1 b1 hb hs m1 h1 d0 d1 f3 g3 h0 h2 hl;have e0:=b2.at_ 0 _ q0;have e2:=b2.at_ 2 _ q2;have e3:=b2.at_ 3 _ q3;have c7:=s2.c.c7;have hlk:∀ m,(Instr.lookup 122 (.map (some σ.ob)) (.int .u8 x) true).run Tryz.prog (w2.drewN m)=.ok (.tuple #[.func (.func f) #[] #[],.bool true]) (w2.drewN m):=fun m=>
  fY Tryz.underlying122 Tryz.underlying5 (((Kp.drewN [] w2 m).block _ (s2.r.bk.hi 1 _ rfl) (by simp)).trans s2.r.m7) HT.out
 go_wp2_with fail;go_quiet (fail);have s3:=s2.aj (Kp.drewN [] w2 nq);have b3:=b2.aj (Kp.drewN [] w2 nq) (by simp);have c1:=s2.cur.c1;have f1:=s2.cur.free 1;have hsm:=s2.cur.small;unfold Enters at hce;have s4:Sr w0 ((w2.drewN nq).setCell ⟨b,1,none⟩ (.int .i64 ((k:Int)+1))) b src (k+1) σ:=s3.move (Mv.step _ _ _) (s3.cur.step hk);have b4:Bl ((w2.drewN nq).setCell ⟨b,1,none⟩ (.int .i64 ((k:Int)+1))) cb cv2:=b3.aj (Kp.setCell (S:=[b]) _ _ (by simp)) (by simpa using hne);have S4:=hid s4;have B4:=hid b4;clear s3 b3 s4 b4;by_cases hx:x=125\/x=58
 .obtain ⟨rfl,rfl⟩:=HB.out hx;rcases hx with hx | hx
  .have g1:((x:Int) == 125)=true:=by rw [hx];rfl
   go_wp2_with fail;refine (HO.out _ cb cv2 S4.out B4.out l2 z2 hf hsl).mono ?_;rintro r w5 ⟨σ',cv',rfl,r1,r2,r3,r4,r5⟩;go_wp2_with fail;go_end0;exact ⟨σ',cv',rfl,r1,r2,r3,r4,HCV.out ▸ r5⟩
  .have g1:((x:Int) == 125)=false:=by rw [hx];rfl
   have g2:((x:Int) == 58)=true:=by rw [hx];rfl
   go_wp2_with fail;refine (HO.out _ cb cv2 S4.out B4.out l2 z2 hf hsl).mono ?_;rintro r w5 ⟨σ',cv',rfl,r1,r2,r3,r4,r5⟩;go_wp2_with fail;go_end0;exact ⟨σ',cv',rfl,r1,r2,r3,r4,HCV.out ▸ r5⟩
 .have g1:((x:Int) == 125)=false:=by rw [Nz];omega
  have g2:((x:Int) == 58)=false:=by rw [Nz];omega
  go_wp2_with fail;refine (HO.out _ cb cv2 S4.out B4.out l2 z2 hf hsl).mono ?_;rintro r w5 ⟨σ',cv',rfl,r1,r2,r3,r4,r5⟩;go_wp2_with fail;go_end0;exact ⟨σ',cv',rfl,r1,r2,r3,r4,HCV.out ▸ r5⟩
def qZ (src:ByteArray) (k e:Nat):List Adr->Prop
 | []=>isA src k=false/\e=k
 | [A]=>A.ok src k e/\saw src e 44=false
 | [A,B]=>∃ e1,A.ok src k e1/\saw src e1 44=true/\B.ok src (e1+1) e
 | _=>False
def Nh (fs:List (Nat×Obj)):Adr->List Value->Prop
 | .num x,v=>v=iE 0 x
 | .last,v=>v=iE 1 0
 | .pat Q txt,v=>∃ pb g o1 o2,v=adrP pb txt/\(pb,o1)∈fs/\(g,o2)∈fs/\D9 Q pb g o1 o2
def AD (fs:List (Nat×Obj)) (v:Value) (L:List Adr):Prop:=
 (L=[]/\v=.slice none 0 0)\/∃ p c cells,v=.slice (some ⟨p,0,none⟩) L.length c/\(p,Obj.cells cells 132 (0,0))∈fs/\∀ i A,L[i]? = some A->∃ va,Nh fs A va/\∀ j u,va[j]? = some u->cells[4 * i+j]? = some u
theorem jG.facts {lo:Nat} {w:World} {A:Adr} {va:List Value} (h:jG lo w A va):∃ new:List (Nat×Obj),(∀ f∈new,w.heap[f.1]? = some f.2/\lo<=f.1)/\∀ fs,(∀ f∈new,f∈fs)->Nh fs A va:=by
 cases A with
 | num x=>exact ⟨[],by simp,fun _ _=>h⟩
 | last=>exact ⟨[],by simp,fun _ _=>h⟩
 | pat Q txt=>
  obtain ⟨pb,g,o1,o2,e,h1,h2,l1,l2,hb⟩:=h;refine ⟨[(pb,o1),(g,o2)],fun f hf=>?_,fun fs hfs=>⟨pb,g,o1,o2,e,hfs _ (by simp),hfs _ (by simp),hb⟩⟩;simp at hf;rcases hf with rfl | rfl
  .exact ⟨h1,l1⟩
  .exact ⟨h2,l2⟩
theorem xC {lo:Nat} {w:World} {C:Nat->List Value->Prop}:∀ (L:List Adr) (off:Nat),(∀ i A,L[i]? = some A->∃ va,jG lo w A va/\C (off+i) va)->∃ new:List (Nat×Obj),(∀ f∈new,w.heap[f.1]? = some f.2/\lo<=f.1)/\∀ fs,(∀ f∈new,f∈fs)->∀ i A,L[i]? = some A->∃ va,Nh fs A va/\C (off+i) va
 | [],_,_=>⟨[],by simp,fun _ _ i A h=>by simp at h⟩
 | A::L,off,h=>by
  obtain ⟨va,ha,hc⟩:=h 0 A rfl;obtain ⟨n1,f1,g1⟩:=ha.facts
  obtain ⟨n2,f2,g2⟩:=xC L (off+1) (fun i B hi=>by
   obtain ⟨vb,hb,hcb⟩:=h (i+1) B (by simpa using hi)
   exact ⟨vb,hb,by rw [show off+1+i=off+(i+1) by omega];exact hcb⟩)
  refine ⟨n1++n2,fun f hf=>?_,fun fs hfs i B hi=>?_⟩
  .rcases List.mem_append.1 hf with q | q
   .exact f1 f q
   .exact f2 f q
  .match i,hi with
   | 0,hi=>
    injection hi with hi;subst hi;exact ⟨va,g1 fs (fun f hf=>hfs f (by simp [hf])),hc⟩
   | i+1,hi=>
    obtain ⟨vb,hb,hcb⟩:=g2 fs (fun f hf=>hfs f (by simp [hf])) i B (by simpa using hi);exact ⟨vb,hb,by rw [show off+(i+1)=off+1+i by omega];exact hcb⟩
section
variable {w0 w w':World} {b k:Nat} {src:ByteArray} {σ:Sst}
theorem Fa (b:Nat) (σ:Sst) (fs:List (Nat×Obj)):srB b { σ with fs:=fs }=srB b σ:=by
 funext i
 rcases i with _ | _ | _ | _ | _ | _ | _ | _ | i <;> rfl
theorem pU (b:Nat) (σ:Sst) (n:Nat):srB b { σ with ranges:=n }=srB b σ:=by
 funext i
 rcases i with _ | _ | _ | _ | _ | _ | _ | _ | i <;> rfl
theorem Sr.ub (h:Sr w0 w b src k σ):∀ (new:List (Nat×Obj)),(∀ f∈new,w.heap[f.1]? = some f.2/\w0.heap.size<=f.1/\∀ i,srB b σ i≠some f.1)->Sr w0 w b src k { σ with fs:=new++σ.fs }
 | [],_=>h
 | f::new,hn=>by
  have h1:=h.ub new (fun f hf=>hn f (by simp [hf]));obtain ⟨q1,q2,q3⟩:=hn f (by simp)
  exact ⟨h1.cur,⟨h1.c.c2,h1.c.c3,h1.c.c4,h1.c.c5,h1.c.c6,h1.c.c7,h1.c.c8,h1.c.c9,h1.c.c10,h1.c.c11⟩,⟨h1.r.kp,h1.r.o4,h1.r.o5,h1.r.o8,h1.r.o11,h1.r.m7,h1.r.m9,h1.r.m10,h1.r.len,by rw [Fa];exact h.r.bk,fun f' hm=>by
   rw [Fa];rcases List.mem_cons.1 hm with q | q
   .subst q;exact ⟨q1,q2,q3⟩
   .have:=h1.r.fx f' q;rw [Fa] at this
    exact this⟩⟩
theorem Sr.nm (h:Sr w0 w b src k σ) (hw:Nm w0):Nm w/\b≠4:=⟨hw.aj h.r.kp (by simp),by have:=h.r.bk.lo 0 b rfl;have:=hw.lt;omega⟩
theorem jD {k1:Nat} {L:List Adr} (h:Sr w0 w b src k σ) (hw0:Nm w0) (hA:qZ src k k1 L) :
  Calls Tryz.prog 151 #[.pointer (some ⟨b,0,none⟩)] w fun r w'=>∃ A c fs,r=.returned (.slice A L.length c)/\AD fs (.slice A L.length c) L/\(∀ f∈σ.fs,f∈fs)/\Sr w0 w' b src k1 { σ with fs:=fs }/\Kp [b] w w':=by
 have fin:∀ (w':World) (v:Value),Jt w.heap.size w' v L->(∀ p,v.ownBlock=some p->w.heap.size<=p)->Cur w' b src k1->Mv b w w' ->
   ∃ A c fs,Ending.returned v=.returned (.slice A L.length c)/\AD fs (.slice A L.length c) L/\(∀ f∈σ.fs,f∈fs)/\Sr w0 w' b src k1 { σ with fs:=fs }/\Kp [b] w w':=by
  intro w' v ha hp hc hm;rcases ha with ⟨rfl,rfl⟩ | ⟨p,c,cells,rfl,hh,hx⟩
  .exact ⟨none,0,σ.fs,rfl,.inl ⟨rfl,rfl⟩,fun f hf=>hf,h.move hm hc,hm.kp⟩
  .obtain ⟨new,n1,n2⟩:=xC (C:=fun i va=>∀ j u,va[j]? = some u->cells[4 * i+j]? = some u) L 0 (fun i A hi=>by
    obtain ⟨va,h1,h2⟩:=hx i A hi
    exact ⟨va,h1,by rw [NJ];exact h2⟩)
   refine ⟨_,c,((p,Obj.cells cells 132 (0,0))::new)++σ.fs,rfl,.inr ⟨p,c,cells,rfl,by simp,fun i A hi=>?_⟩,fun f hf=>by simp [hf],(h.move hm hc).ub _ (fun f hf=>?_),hm.kp⟩
   .obtain ⟨va,q1,q2⟩:=n2 (((p,Obj.cells cells 132 (0,0))::new)++σ.fs) (fun f hf=>by simp [hf]) i A hi;rw [NJ] at q2;exact ⟨va,q1,q2⟩
   .rcases List.mem_cons.1 hf with q | q
    .subst q;have:=h.dP (hp p rfl);exact ⟨hh,this.lo,this.bk⟩
    .obtain ⟨q1,q2⟩:=n1 f q;have:=h.dP q2;exact ⟨q1,this.lo,this.bk⟩
 match L,hA with
 | [],hA=>
  obtain ⟨h1,rfl⟩:=hA;exact (pJ h.cur h1).mono fun r w' ⟨hr,hc,hm⟩=>by
   subst hr;exact fin w' _ (.inl ⟨rfl,rfl⟩) (fun p hp=>by cases hp) hc hm
 | [A],hA=>exact (tX h.cur (h.nm hw0).1 (h.nm hw0).2 h.c.c2 hA.1 hA.2).mono fun r w' ⟨v,hr,ha,hp,hc,hm⟩=>by subst hr;exact fin w' v ha hp hc hm
 | [A,B],hA=>
  obtain ⟨e1,h1,h2,h3⟩:=hA;exact (tW h.cur (h.nm hw0).1 (h.nm hw0).2 h.c.c2 h1 h2 h3).mono fun r w' ⟨v,hr,ha,hp,hc,hm⟩=>by subst hr;exact fin w' v ha hp hc hm
abbrev sE:Value:=.string ⟨#[]⟩
abbrev nE:Value:=.int .i64 0
abbrev DN (v:Value) (rng:Nat) (nt:Bool) (x:Nat):List Value:=[v,.int .i64 rng,.bool nt,.int .u8 x,sE,nE,sE,nE,nE,sE,sE,.pointer none,sE,sE,sE,.slice none 0 0,.bool false,nE,.bool false,sE,sE,sE,sE]
theorem tQ (A:Option Addr) (n c rng:Nat) (nt:Bool) (x:Nat):Cv (DN (.slice A n c) rng nt x):=⟨rfl,fun u hu=>by
 simp only [DN,Oh,OV,or_false] at hu
 rcases hu with h | h | h | h | h | h | h | h | h | h | h | h | h | h | h | h | h | h | h | h | h | h | h <;> subst h <;> rfl⟩
theorem dS {cv:List Value} (h:cv.length=23):∃ x0 x1 x2 x3 x4 x5 x6 x7 x8 x9 x10 x11 x12 x13 x14 x15 x16 x17 x18 x19 x20 x21 x22,cv=[x0,x1,x2,x3,x4,x5,x6,x7,x8,x9,x10,x11,x12,x13,x14,x15,x16,x17,x18,x19,x20,x21,x22]:=by
 match cv,h with
 | [x0,x1,x2,x3,x4,x5,x6,x7,x8,x9,x10,x11,x12,x13,x14,x15,x16,x17,x18,x19,x20,x21,x22],_=>exact ⟨_,_,_,_,_,_,_,_,_,_,_,_,_,_,_,_,_,_,_,_,_,_,_,rfl⟩
theorem Sr.ranged (h:Sr w0 w b src k σ) (n:Nat):Sr w0 (w.setCell ⟨b,6,none⟩ (.int .i64 n)) b src k { σ with ranges:=n }:=by
 have kp:Kp [b] w (w.setCell ⟨b,6,none⟩ (.int .i64 n)):=Kp.setCell _ _ (by simp);have hc:∀ j,j≠6->(w.setCell ⟨b,6,none⟩ (Value.int .i64 n)).cell? ⟨b,j,none⟩=w.cell? ⟨b,j,none⟩:=fun j hj=>aq _ (fun e=>by injection e with _ e2 _;exact hj e2.symm);refine ⟨⟨by simpa [World.setCell] using h.cur.lt,h.cur.le,h.cur.small,(hc _ (by omega)).trans h.cur.c0,(hc _ (by omega)).trans h.cur.c1,fun i=>by simpa using h.cur.free i⟩,⟨(hc _ (by omega)).trans h.c.c2,(hc _ (by omega)).trans h.c.c3,(hc _ (by omega)).trans h.c.c4,(hc _ (by omega)).trans h.c.c5,aw _ h.c.c6,(hc _ (by omega)).trans h.c.c7,(hc _ (by omega)).trans h.c.c8,(hc _ (by omega)).trans h.c.c9,(hc _ (by omega)).trans h.c.c10,(hc _ (by omega)).trans h.c.c11⟩,?_⟩
 have r:=h.r.aj kp (fun x hx=>by
  simp at hx;subst hx
  exact ⟨h.r.bk.lo 0 x rfl,fun i hi e=>by have:=h.r.bk.ne i 0 x e rfl;omega,fun f hf e=>(h.r.fx f hf).2.2 0 (by rw [e];rfl)⟩)
 exact ⟨r.kp,r.o4,r.o5,r.o8,r.o11,r.m7,r.m9,r.m10,r.len,by rw [pU];exact r.bk,by rw [pU];exact r.fx⟩
end
section
variable {w0 w w1 w2:World} {b k g cap:Nat} {src:ByteArray} {σ:Sst} {cv:List Value}
theorem JR (b:Nat) (σ:Sst) (A:Addr) (n c:Nat) (cs:List (List Value)):srB b { σ with vc:=.slice (some A) n c,cs:=cs }=fun j=>if j=4 then some A.block else srB b σ j:=by
 funext i
 rcases i with _ | _ | _ | _ | _ | _ | _ | _ | i <;> simp [srB,Value.ownBlock]
theorem Sr.pushCmd (h:Sr w0 w b src k σ) (k1:Kp [] w w1) (ho:w2.ownsRow w0.heap.size 93 23 (.slice (some ⟨g,0,none⟩) (σ.cs.length+1) cap) (σ.cs.length+1) (σ.cs.flatten++cv))
  (hg:w1.grownBy w2 σ.vc.ownBlock) (hor:σ.vc.ownBlock=some g\/w1.heap.size<=g) (hcv:Cv cv) :
  Sr w0 (w2.setCell ⟨b,4,none⟩ (.slice (some ⟨g,0,none⟩) (σ.cs.length+1) cap)) b src k { σ with vc:=.slice (some ⟨g,0,none⟩) (σ.cs.length+1) cap,cs:=σ.cs++[cv] }:=by
 obtain ⟨v,hv⟩:∃ v,v=Value.slice (some ⟨g,0,none⟩) (σ.cs.length+1) cap:=⟨_,rfl⟩;have h1:=h.aj k1;have hsz:=k1.size;have glt:g < w2.heap.size:=(az ho (g:=g) rfl).2;have bne:∀ i p,i≠4->srB b σ i=some p->w2.heap[p]? = w1.heap[p]?:=fun i p hi hp=>hg.block p (h1.r.bk.hi i p hp) (fun e=>hi (h1.r.bk.ne i 4 p hp (by first | exact e | exact e.symm)));have gne:∀ i p,i≠4->srB b σ i=some p->p≠g:=fun i p hi hp e=>by
  subst e;rcases hor with q | q
  .exact hi (h1.r.bk.ne i 4 p hp q)
  .have:=h1.r.bk.hi i p hp;omega
 have kb:Kp [b] w2 (w2.setCell ⟨b,4,none⟩ v):=Kp.setCell _ _ (by simp);have bb:∀ p,p < w2.heap.size->p≠b->(w2.setCell ⟨b,4,none⟩ v).heap[p]? = w2.heap[p]?:=fun p hp hn=>kb.block p hp (by simpa using hn);have hh:∀ i p,0 < i->i≠4->srB b σ i=some p->(w2.setCell ⟨b,4,none⟩ v).heap[p]? = w1.heap[p]?:=fun i p h0 hi hp=>
  (bb p (Ns (h1.r.bk.hi i p hp) hg.size) (fun e=>by have:=h1.r.bk.ne i 0 p hp (by rw [e];rfl);omega)).trans (bne i p hi hp)
 have hb2:w2.heap[b]? = w1.heap[b]?:=bne 0 b (by omega) rfl;have hc2:∀ j,w2.cell? ⟨b,j,none⟩=w1.cell? ⟨b,j,none⟩:=fun j=>World.cell?_of_block hb2;have hf2:∀ j,w2.frozen? ⟨b,j,none⟩=w1.frozen? ⟨b,j,none⟩:=fun j=>World.frozen?_of_block hb2;have hc:∀ j,j≠4->(w2.setCell ⟨b,4,none⟩ v).cell? ⟨b,j,none⟩=w1.cell? ⟨b,j,none⟩:=fun j hj=>(aq _ (fun e=>by injection e with _ e2 _;exact hj e2.symm)).trans (hc2 j);have gb:g≠b:=fun e=>gne 0 b (by omega) rfl e.symm;rw [<-hv] at ho ⊢;have eB:srB b { σ with vc:=v,cs:=σ.cs++[cv] }=fun j=>if j=4 then some g else srB b σ j:=by rw [hv];exact JR b σ _ _ _ _
 refine ⟨⟨Ns (Ns h1.cur.lt hg.size) kb.size,h1.cur.le,h1.cur.small,(hc _ (by omega)).trans h1.cur.c0,(hc _ (by omega)).trans h1.cur.c1,fun i=>?_⟩,⟨(hc _ (by omega)).trans h1.c.c2,(hc _ (by omega)).trans h1.c.c3,aw _ ((hc2 4).trans h1.c.c4),(hc _ (by omega)).trans h1.c.c5,(hc _ (by omega)).trans h1.c.c6,(hc _ (by omega)).trans h1.c.c7,(hc _ (by omega)).trans h1.c.c8,(hc _ (by omega)).trans h1.c.c9,(hc _ (by omega)).trans h1.c.c10,(hc _ (by omega)).trans h1.c.c11⟩,⟨?_,?_,ag h1.r.o5 (fun p hp=>hh 5 p (by omega) (by omega) hp),ag h1.r.o8 (fun p hp=>hh 6 p (by omega) (by omega) hp),ag h1.r.o11 (fun p hp=>hh 7 p (by omega) (by omega) hp),(hh 1 _ (by omega) (by omega) rfl).trans h1.r.m7,(hh 2 _ (by omega) (by omega) rfl).trans h1.r.m9,(hh 3 _ (by omega) (by omega) rfl).trans h1.r.m10,?_,?_,?_⟩⟩
 .have e1:(w2.setCell ⟨b,4,none⟩ v).frozen? ⟨b,i,none⟩=w2.frozen? ⟨b,i,none⟩:=by simp
  rw [e1,hf2];exact h1.cur.free i
 .refine ⟨kb.os.trans (hg.os.trans h1.r.kp.os),kb.tape.trans (hg.tape.trans h1.r.kp.tape),kb.output.trans (hg.output.trans h1.r.kp.output),Nx h1.r.kp.size (Nx hg.size kb.size),fun j hj _=>?_⟩;have hj1:j < w1.heap.size:=Ns hj h1.r.kp.size;refine (bb j (Ns hj1 hg.size) (fun e=>?_)).trans ((hg.block j hj1 (fun e=>?_)).trans (h1.r.kp.block j hj (by simp)))
  .have:=h1.r.bk.lo 0 b rfl;omega
  .have:=h1.r.bk.lo 4 j (by first | exact e | exact e.symm);omega
 .have ho2:=ag (w':=w2.setCell ⟨b,4,none⟩ v) ho (fun p hp=>by
   rw [hv] at hp;have:g=p:=by simpa [Value.ownBlock] using hp
   subst this
   exact bb g glt gb)
  rw [Nu,List.flatten_append];simpa using ho2
 .intro c hm;rcases List.mem_append.1 hm with q | q
  .exact h1.r.len c q
  .rw [List.mem_singleton.1 q];exact ⟨hcv.len,hcv.one⟩
 .rw [eB];refine h1.r.bk.upd 4 g (Nx hg.size kb.size) h1.r.kp.size ?_;rcases hor with q | q
  .exact .inl q
  .exact .inr ⟨q,Ns glt kb.size⟩
 .intro f hm;obtain ⟨f1,f2,f3⟩:=h1.r.fx f hm;have flt:=aM f1;have fg:f.1≠g:=fun e=>by
   rcases hor with q | q
   .exact f3 4 (by rw [e];exact q)
   .omega
  refine ⟨(bb f.1 (Ns flt hg.size) (fun e=>f3 0 (by rw [e];rfl))).trans ((hg.block f.1 flt (fun e=>f3 4 (by first | exact e | exact e.symm))).trans f1),f2,fun i=>?_⟩;rw [eB];show (if i=4 then some g else srB b σ i)≠_;split
  .intro e;injection e with e;exact fg e.symm
  .exact f3 i
end
