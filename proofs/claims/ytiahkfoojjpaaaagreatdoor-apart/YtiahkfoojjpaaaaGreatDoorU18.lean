import Derived.Test.YtiahkfoojjpaaaaGreatDoorU14
import Derived.Test.YtiahkfoojjpaaaaGreatDoorU07
set_option maxRecDepth 100000
set_option maxHeartbeats 16000000
set_option linter.all false
namespace Go.Proofs.YtiahkfoojjpaaaaGreatDoor
open Go.RowKit
theorem Lr {b:Nat} {src:ByteArray} {k g:Nat} (behind:ByteArray) {w:World} (hr:Rd w b src k g) (h:saw src k 110=true) :
  Calls Tryz.prog 203 #[.pointer (some ⟨b,0,none⟩),.string behind] w fun e w'=>e=.returned (.int .u8 10)/\Rd w' b src (k+1) g/\Kp [b] w w':=by
 go_enter Tryz.func203,Tryz.ntmps203
 go_wp2_with fail;refine (aI 110 hr h).mono ?_;rintro e w1 ⟨rfl,r1,k1⟩;go_wp2_with fail;go_ret;exact ⟨rfl,r1,k1⟩
theorem Lt {b:Nat} {src:ByteArray} {k g:Nat} (behind:ByteArray) {w:World} (hr:Rd w b src k g) (hk:k < src.size) (h1:saw src k 110=false) (h2:saw src k 116=false)
  {v:Int} (hix:Lib.indexByte behind.data.toList src[k]=v) (hv:0<=v) :
  Calls Tryz.prog 203 #[.pointer (some ⟨b,0,none⟩),.string behind] w fun e w'=>e=.returned (.int .u8 (src[k]).toNat)/\Rd w' b src (k+1) g/\Kp [b] w w':=by
 go_enter Tryz.func203,Tryz.ntmps203
 go_wp2_with fail;refine (aD 110 hr h1).mono ?_;rintro e w1 ⟨rfl,r1,k1⟩;go_wp2_with fail;refine (aD 116 r1 h2).mono ?_;rintro e w2 ⟨rfl,r2,k2⟩;have c0:=r2.c0;have c1:=r2.c1;have f1:=r2.free 1;have hsm:=r2.small;have he:((k:Int) == (src.size:Int))=false:=by simp;omega
 have hix':Lib.indexByte behind.data.toList ((src[k].toNat:Int)).toNat.toUInt8=v:=by simpa using hix
 have hv':¬ v < 0:=by omega
 go_wp2_with fail;go_quiet (first | (go_at_call 104;exact gG r2 _) | (go_at_call 162;exact jY _ _ hix' _ _));go_wp2;go_quiet (fail);go_wp2;go_ret;exact ⟨rfl,((r2.drewN _).step hk).drewN _,k1.trans (k2.trans ((Kp.drewN _ _ _).trans ((Kp.setCell _ _ (by simp)).trans (Kp.drewN _ _ _))))⟩
def oY (b:Nat) (src:ByteArray) (barred behind:ByteArray) (k l g x:Nat):Prop:=
 ∀ w:World,Rd w b src k g->Calls Tryz.prog 196 #[.pointer (some ⟨b,0,none⟩),.string barred,.string behind] w fun e w'=>e=.returned (.int .u8 x)/\Rd w' b src l g/\Kp [b] w w'
theorem DW {b:Nat} {src:ByteArray} {k g:Nat} {barred behind:ByteArray} (hk:k < src.size) (h92:saw src k 92=false) (h10:saw src k 10=false) (hbar:Lib.indexByte barred.data.toList src[k] = -1) :
  oY b src barred behind k (k+1) g (src[k]).toNat:=fun _ hr=>xU barred behind hr hk h92 h10 hbar
theorem byte_n {b:Nat} {src:ByteArray} {k g:Nat} {barred behind:ByteArray} (h92:saw src k 92=true) (h:saw src (k+1) 110=true):oY b src barred behind k (k+1+1) g 10:=by
 intro w hr;go_enter Tryz.func196,Tryz.ntmps196
 go_wp2_with fail;refine (aI 92 hr h92).mono ?_;rintro e w1 ⟨rfl,r1,k1⟩;go_wp2_with fail;refine (Lr behind r1 h).mono ?_;rintro e w2 ⟨rfl,r2,k2⟩;go_wp2_with fail;go_ret;exact ⟨rfl,r2,k1.trans k2⟩
theorem byte_c {b:Nat} {src:ByteArray} {k g:Nat} {barred behind:ByteArray} (h92:saw src k 92=true) (hk:k+1 < src.size) (h1:saw src (k+1) 110=false) (h2:saw src (k+1) 116=false)
  {v:Int} (hix:Lib.indexByte behind.data.toList src[k+1]=v) (hv:0<=v):oY b src barred behind k (k+1+1) g (src[k+1]).toNat:=by
 intro w hr;go_enter Tryz.func196,Tryz.ntmps196
 go_wp2_with fail;refine (aI 92 hr h92).mono ?_;rintro e w1 ⟨rfl,r1,k1⟩;go_wp2_with fail;refine (Lt behind r1 hk h1 h2 hix hv).mono ?_;rintro e w2 ⟨rfl,r2,k2⟩;go_wp2_with fail;go_ret;exact ⟨rfl,r2,k1.trans k2⟩
def iM:ByteArray:=⟨#[92,124,42,43,63,123,125,40,41,46,94,36,91,93]⟩
def iT:ByteArray:=⟨#[92,124,42,43,63,123,125,40,41,46,94,36,91,93,47]⟩
abbrev edgeV (k:Int):Value:=.iface 228 (.agg #[.int .i64 k])
theorem I8 {b:Nat} {src:ByteArray} {k l g x:Nat} {w:World} (hr:Rd w b src k g) (hx:x < 256) (h40:saw src k 40=false) (h46:saw src k 46=false) (h91:saw src k 91=false) (hb:oY b src iM iT k l g x) :
  Calls Tryz.prog 183 #[.pointer (some ⟨b,0,none⟩)] w fun e w'=>e=.returned (oneV (span dt x (x+1)))/\Rd w' b src l g/\Kp [b] w w':=by
 go_enter Tryz.func183,Tryz.ntmps183
 go_wp2_with fail;refine (ij 40 hr).mono ?_;rw [h40];rintro e w1 ⟨rfl,n,rfl⟩;go_wp2_with fail;refine (aD 46 (hr.drewN n) h46).mono ?_;rintro e w2 ⟨rfl,r2,k2⟩;go_wp2_with fail;refine (aD 91 r2 h91).mono ?_;rintro e w3 ⟨rfl,r3,k3⟩;go_wp2_with fail;refine (hb _ r3).mono ?_;rintro e w4 ⟨rfl,r4,k4⟩;have q4:=Kp.alloc [b] w4 lN;have r5:=r4.aj (Kp.alloc [] w4 lN) (by simp);have s5:=Jl w4;have hz5:(w4.alloc lN).heap.size=w4.heap.size+1:=by simp
 have hbl:=r4.lt;go_wp2_with fail;refine (tY w4.heap.size dt x x hx hx (Nw _) _ s5).mono ?_;rintro e w6 ⟨rfl,s6,k6⟩;have a0:=s6.cell 0 (by omega);have a1:=s6.cell 1 (by omega);have a2:=s6.cell 2 (by omega);have a3:=s6.cell 3 (by omega);have r6:=r5.aj k6 (by simp;omega);have k6':Kp [b] w4 w6:=by
  have:=Kp.own (x:=w4.heap.size) (S:=[b]) ((q4.mono (by simp)).trans (k6.mono (T:=[w4.heap.size,b]) (by simp))) (Nw _);exact this
 clear s5 s6 r5;go_wp2_with fail;go_ret;exact ⟨rfl,r6,(Kp.drewN _ _ n).trans (k2.trans (k3.trans (k4.trans k6')))⟩
theorem yL {b:Nat} {src:ByteArray} {k g:Nat} (h94:saw src k 94=true):Jo b src k (k+1) g (edgeV 1):=by
 intro w hr _;go_enter Tryz.func171,Tryz.ntmps171
 go_wp2_with fail;refine (aI 94 hr h94).mono ?_;rintro e w1 ⟨rfl,r1,k1⟩;go_wp2_with fail;go_ret;exact ⟨rfl,r1,k1⟩
theorem Gm {b:Nat} {src:ByteArray} {k g:Nat} (h94:saw src k 94=false) (h36:saw src k 36=true):Jo b src k (k+1) g (edgeV 2):=by
 intro w hr _;go_enter Tryz.func171,Tryz.ntmps171
 go_wp2_with fail;refine (aD 94 hr h94).mono ?_;rintro e w1 ⟨rfl,r1,k1⟩;go_wp2_with fail;refine (aI 36 r1 h36).mono ?_;rintro e w2 ⟨rfl,r2,k2⟩;go_wp2_with fail;go_ret;exact ⟨rfl,r2,k1.trans k2⟩
theorem uI (v : Value) (w : World) : (method 370 228 v "ribbon/pattern.size").run Tryz.prog w = .ok (228, v) w := by kernel_rfl
theorem xJ (v : Value) (w : World) : (method 370 228 v "ribbon/pattern.emit").run Tryz.prog w = .ok (227, v) w := by kernel_rfl
theorem Ir (k:Int) (w:World):Calls Tryz.prog 228 #[.agg #[.int .i64 k]] w fun e w'=>e=.returned (.int .i64 1)/\Kp [] w w':=by
 go_enter Tryz.func228,Tryz.ntmps228
 go_wp2;go_ret;exact ⟨rfl,Kp.alloc _ _ _⟩
def jH (cd:Nat->In) (text:ByteArray) (pl pc tk:Nat):List (Nat×Nat):=
 if (cd pc).kind=1 then (if pl=0 then [((cd pc).nx,tk)] else [])
 else if (cd pc).kind=2 then (if pl=text.size then [((cd pc).nx,tk)] else [])
 else if (cd pc).kind=3 then [((cd pc).nx,tk)]
 else if (cd pc).kind=4 then [((cd pc).nx,tk),((cd pc).ot,tk)]
 else if (cd pc).kind=5 then (if tk<=(cd pc).dp then [] else [((cd pc).nx,(cd pc).dp)])
 else []
def eV (cd:Nat->In) (pl pc:Nat) (x:Nat->Int):Nat->Int:=if (cd pc).kind=3 then nu x (cd pc).sl pl else x
def eps (cd:Nat->In) (text:ByteArray) (pl:Nat) (t:Thr):List Thr:=(jH cd text pl t.pc t.tk).map fun c=>⟨c.1,c.2,eV cd pl t.pc t.x⟩
def eS (cd:Nat->In) (text:ByteArray) (pl:Nat) (t:Thr):Bool:=
 decide ((cd t.pc).kind=0) && (if h:pl < text.size then (cd t.pc).m (text[pl]'h).toNat else false)
def behind (cd:Nat->In) (t:Thr):Thr:=⟨(cd t.pc).nx,(cd t.pc).dp,t.x⟩
theorem JP {cd:Nat->In} {text:ByteArray} {pl:Nat} {t:Thr} (hk:(cd t.pc).kind<=6) (s:Mc) :
  aJ cd text pl t s=((eps cd text pl t).head?,{ s with ahead:=s.ahead++(if eS cd text pl t=true then [behind cd t] else []),left:=s.left++(eps cd text pl t).tail,fd:=(s.fd || decide ((cd t.pc).kind=6)),eX:=if (cd t.pc).kind=6 then nu t.x 1 pl else s.eX }):=by
 rcases jX hk with e | e | e | e | e | e | e
 .by_cases hlt:pl < text.size
  .by_cases hm:(cd t.pc).m (text[pl]).toNat=true
   .simp [aJ,eps,jH,eV,eS,behind,e,hlt,hm]
   .simp [aJ,eps,jH,eV,eS,e,hlt,hm]
  .simp [aJ,eps,jH,eV,eS,e,hlt]
 .by_cases h0:pl=0 <;> simp [aJ,eps,jH,eV,eS,e,h0]
 .by_cases h0:pl=text.size <;> simp [aJ,eps,jH,eV,eS,e,h0]
 .simp [aJ,eps,jH,eV,eS,e]
 .simp [aJ,eps,jH,eV,eS,e]
 .by_cases h0:t.tk<=(cd t.pc).dp <;> simp [aJ,eps,jH,eV,eS,e,h0]
 .simp [aJ,eps,jH,eV,eS,e]
inductive Way (cd:Nat->In) (text:ByteArray) (bg fr:Nat):Nat->Thr->Prop
 | start (a:Nat) (h:fr<=a) (h2:a<=text.size):Way cd text bg fr a ⟨bg,0,nz a⟩
 | eps {pl:Nat} {t u:Thr} (h:Way cd text bg fr pl t) (hu:u∈eps cd text pl t):Way cd text bg fr pl u
 | byte {pl:Nat} {t:Thr} (h:Way cd text bg fr pl t) (hb:eS cd text pl t=true):Way cd text bg fr (pl+1) (behind cd t)
structure Cok (cd:Nat->In) (n D bg:Nat):Prop where
 ok:∀ a,a < n->(cd a).kind<=6/\(cd a).nx < n/\(cd a).ot < n/\(cd a).sl < 20/\(cd a).dp<=D
 sl:∀ a,a < n->(cd a).kind=3->2<=(cd a).sl
 bg:bg < n
section
variable {cd:Nat->In} {n D bg fr pl:Nat} {text:ByteArray} {t u:Thr} {s s':Mc}
theorem epsC_ok (hc:Cok cd n D bg) {pc tk:Nat} (h1:pc < n) (h2:tk<=D) {c:Nat×Nat} (hu:c∈jH cd text pl pc tk):c.1 < n/\c.2<=D:=by
 have ok:=hc.ok pc h1;unfold jH at hu
 repeat' split at hu
 all_goals simp at hu
 all_goals first
  | (subst hu;exact ⟨ok.2.1,by first | exact h2 | exact ok.2.2.2.2⟩)
  | (rcases hu with rfl | rfl
     .exact ⟨ok.2.1,h2⟩
     .exact ⟨ok.2.2.1,h2⟩)
theorem MX (hc:Cok cd n D bg) (ht:okT n D t) (hu:u∈eps cd text pl t):okT n D u:=by
 obtain ⟨c,h1,rfl⟩:=List.mem_map.1 hu;exact epsC_ok hc ht.1 ht.2 h1
theorem eps_x (hc:Cok cd n D bg) (ht:okT n D t) (hu:u∈eps cd text pl t):u.x 0=t.x 0:=by
 have sl:=hc.sl t.pc ht.1;obtain ⟨c,_,rfl⟩:=List.mem_map.1 hu;show eV cd pl t.pc t.x 0=_;unfold eV;split
 .have:=sl (by assumption);unfold nu;rw [Nr (by omega)]
 .rfl
theorem xZ (hc:Cok cd n D bg) (ht:okT n D t):okT n D (behind cd t):=⟨(hc.ok t.pc ht.1).2.1,(hc.ok t.pc ht.1).2.2.2.2⟩
theorem Way.ok (hc:Cok cd n D bg) (h:Way cd text bg fr pl t):okT n D t:=by
 induction h with
 | start a _ _=>exact ⟨hc.bg,NH _⟩
 | eps _ hu ih=>exact MX hc ih hu
 | byte _ _ ih=>exact xZ hc ih
end
section
variable {cd:Nat->In} {n D bg fr pl:Nat} {text:ByteArray} {t u v:Thr} {s s' s1:Mc}
def Vd (cd:Nat->In) (text:ByteArray) (bg fr:Nat) (s:Mc):Prop:=s.fd=true->∃ e t,Way cd text bg fr e t/\(cd t.pc).kind=6/\s.eX=nu t.x 1 e
theorem Dr {α:Type} {l:List α} {q:α} (h:l.getLast? = some q):l=l.dropLast++[q]:=by
 rcases OI l with rfl | ⟨m,z,rfl⟩
 .cases h
 .rw [OJ] at h ⊢;simp at h;subst h;simp
theorem xI (t:Thr):∀ u,u∈eps cd text pl t ↔ u∈(eps cd text pl t).head?.toList++(eps cd text pl t).tail:=by
 intro u
 cases eps cd text pl t <;> simp
theorem gH (hc:Cok cd n D bg):∀ (k:Nat) (o:Option Thr) (s s':Mc),drive cd n D text pl k o s=some s'->(∀ t∈o.toList++s.left,Way cd text bg fr pl t)->(∀ t∈s.ahead,Way cd text bg fr (pl+1) t)->Vd cd text bg fr s ->
  (∀ t∈s'.ahead,Way cd text bg fr (pl+1) t)/\Vd cd text bg fr s'/\s'.left=[]
 | 0,_,_,_,h,_,_,_=>by cases h
 | k+1,some t,s,s',h,hp,ha,hv=>by
  have wt:=hp t (by simp);rw [drive] at h;split at h
  .exact gH hc k none s s' h (fun q hq=>hp q (by simp at hq;simp [hq])) ha hv
  .rw [JP (hc.ok _ (wt.ok hc).1).1] at h;refine gH hc k _ _ s' h (fun q hq=>?_) (fun q hq=>?_) (fun hf=>?_)
   .have hq':q∈s.left\/q∈eps cd text pl t:=by
     rcases List.mem_append.1 hq with e | e
     .exact .inr ((xI t q).2 (O0 _ e))
     .rcases List.mem_append.1 e with e | e
      .exact .inl e
      .exact .inr ((xI t q).2 (OH _ e))
    rcases hq' with e | e
    .exact hp q (by simp [e])
    .exact .eps wt e
   .rcases List.mem_append.1 hq with e | e
    .exact ha q e
    .split at e
     .rw [List.mem_singleton.1 e];exact .byte wt (by assumption)
     .cases e
   .by_cases h6:(cd t.pc).kind=6
    .exact ⟨pl,t,wt,h6,by simp [h6]⟩
    .obtain ⟨e,q,h1,h2,h3⟩:=hv (by simpa [h6] using hf);exact ⟨e,q,h1,h2,by simp [h6];exact h3⟩
 | k+1,none,s,s',h,hp,ha,hv=>by
  rw [drive] at h;split at h
  .rename_i hl
   cases h;exact ⟨ha,hv,by simpa using hl⟩
  .rename_i q hl;have hd:∀ z,z∈s.left.dropLast->z∈s.left:=fun z hz=>List.dropLast_subset _ hz
   exact gH hc k (some q) { s with left:=s.left.dropLast } s' h (fun z hz=>by
    have hz':z=q\/z∈s.left.dropLast:=by simpa using hz
    rcases hz' with e | e
    .rw [e];exact hp q (by simp [List.mem_of_getLast? hl])
    .exact hp z (by simp [hd z e])) ha hv
theorem iL (hc:Cok cd n D bg):∀ (here:List Thr) (s s':Mc),Sweep cd n D text pl here s s'->(∀ t∈here,Way cd text bg fr pl t)->s.left=[]->(∀ t∈s.ahead,Way cd text bg fr (pl+1) t)->Vd cd text bg fr s ->
  (∀ t∈s'.ahead,Way cd text bg fr (pl+1) t)/\Vd cd text bg fr s'/\s'.left=[]
 | [],s,s',h,_,hl,ha,hv=>by rw [show s'=s from h];exact ⟨ha,hv,hl⟩
 | t::l,s,s',h,hh,hl,ha,hv=>by
  rcases h with ⟨_,_,rfl⟩ | ⟨_,s1,⟨k,g⟩,q⟩
  .exact ⟨ha,hv,hl⟩
  .obtain ⟨a1,a2,a3⟩:=gH hc k (some t) s s1 g (fun z hz=>by
    have e:z=t:=by simpa [hl] using hz
    rw [e];exact hh t (by simp)) ha hv
   exact iL hc l s1 s' q (fun z hz=>hh z (by simp [hz])) a3 a1 a2
theorem pV (hc:Cok cd n D bg):∀ (k pl:Nat) (here:List Thr) (s s':Mc),Runs cd n D text bg k pl here s s'->k+pl=text.size+1->fr<=pl->(∀ t∈here,Way cd text bg fr pl t)->s.left=[]->s.ahead=[]->Vd cd text bg fr s->Vd cd text bg fr s'
 | 0,pl,here,s,s',h,_,_,_,_,_,hv=>by rw [show s'=s from h];exact hv
 | k+1,pl,here,s,s',h,hk,hf,hh,hl,ha,hv=>by
  rcases h with ⟨_,rfl⟩ | ⟨_,s1,sw,rn⟩
  .exact hv
  .obtain ⟨a1,a2,a3⟩:=iL (fr:=fr) hc _ s s1 sw (fun z hz=>by
    split at hz
    .exact hh z hz
    .rcases List.mem_append.1 hz with e | e
     .exact hh z e
     .rw [List.mem_singleton.1 e];exact .start pl hf (by omega)) hl (by rw [ha];intro z hz;cases hz) hv
   exact pV hc k (pl+1) s1.ahead { s1 with ahead:=[] } s' rn (by omega) (by omega) a1 a3 rfl a2
end
theorem nF (s:ByteArray):∀ (n i:Nat) (r:List UInt8),s.size - i=n->ByteArray.toList.loop s i r=r.reverse++s.data.toList.drop i
 | 0,i,r,h=>by
  rw [ByteArray.toList.loop,Nr (by omega),OB (by show s.size<=i;omega),OE]
 | n+1,i,r,h=>by
  have hi:i < s.size:=by omega
  rw [ByteArray.toList.loop,Ny hi,nF s n (i+1) _ (by omega)];have e:s.data.toList.drop i=s.get! i::s.data.toList.drop (i+1):=by
   have hi':i < s.data.toList.length:=hi;rw [NY hi']
   congr 1
   show s.data[i]=s.data[i]!;exact (getElem!_pos s.data i hi).symm
  rw [e];simp
theorem toList_data (s:ByteArray):s.toList=s.data.toList:=by
 show ByteArray.toList.loop s 0 []=_;rw [nF s s.size 0 [] rfl];rfl
theorem pd (v : Value) (w : World) : (method 370 240 v "ribbon/pattern.size").run Tryz.prog w = .ok (230, v) w := by kernel_rfl
theorem pG (v : Value) (w : World) : (method 370 240 v "ribbon/pattern.emit").run Tryz.prog w = .ok (229, v) w := by kernel_rfl
def Au (L T:Nat) (w:World):Prop:=T < w.heap.size/\T≠L/\∀ v,w.cell? ⟨L,0,none⟩=some v->v.ownBlock≠some T
def aF (L:Nat) (w w':World):Prop:=∀ T,Au L T w->Au L T w'/\w'.heap[T]? = w.heap[T]?
theorem aF.trans {L:Nat} {a b c:World} (h:aF L a b) (k:aF L b c):aF L a c:=fun T s=>by
 obtain ⟨h1,h2⟩:=h T s;obtain ⟨k1,k2⟩:=k T h1;exact ⟨k1,k2.trans h2⟩
theorem aF.aj {L:Nat} {w w':World} (hl:L < w.heap.size) (k:Kp [] w w'):aF L w w':=fun T s=>by
 refine ⟨⟨Ns s.1 k.size,s.2.1,fun v hv=>s.2.2 v ?_⟩,k.block T s.1 (by simp)⟩;rw [<-hv];exact (k.cell (p:=⟨L,0,none⟩) hl (by simp)).symm
theorem aF.set {L i:Nat} {w:World} (hi:i≠0) (u:Value):aF L w (w.setCell ⟨L,i,none⟩ u):=fun T s=>by
 refine ⟨⟨by simpa [World.setCell] using s.1,s.2.1,fun v hv=>s.2.2 v ?_⟩,Below.heap_setCell _ _ _ _ s.2.1⟩
 rwa [aq _ (fun e=>by injection e with _ e2 _;exact hi e2)] at hv
theorem aF.cell {L T i:Nat} {w w':World} {v:Value} (h:aF L w w') (s:Au L T w) (hv:w.cell? ⟨T,i,none⟩=some v):w'.cell? ⟨T,i,none⟩=some v:=
 (World.cell?_of_block (w:=w) (h T s).2).trans hv
theorem CI {L n' g c:Nat} {v:Value} {w W w':World} (hv:w.cell? ⟨L,0,none⟩=some v) (kW:Kp [] w W) (hg:W.grownBy w' v.ownBlock) (hor:v.ownBlock=some g\/W.heap.size<=g) (hc:w'.cell? ⟨L,0,none⟩=some v) :
  aF L w (w'.setCell ⟨L,0,none⟩ (.slice (some ⟨g,0,none⟩) n' c)):=fun T s=>by
 have hne:=s.2.2 v hv;have hTW:T < W.heap.size:=Ns s.1 kW.size;have hz:w'.heap.size<=(w'.setCell ⟨L,0,none⟩ (.slice (some ⟨g,0,none⟩) n' c)).heap.size:=by simp [World.setCell]
 refine ⟨⟨Ns hTW (Nx hg.size hz),s.2.1,fun u hu=>?_⟩,?_⟩
 .rw [aw _ hc] at hu;have e:=(Option.some.inj hu).symm;subst e;intro q;have e:g=T:=by simpa [Value.ownBlock] using q
  rcases hor with r | r
  .exact hne (e ▸ r)
  .omega
 .exact (Below.heap_setCell _ _ _ _ s.2.1).trans ((hg.block T hTW (fun e=>hne e.symm)).trans (kW.block T s.1 (by simp)))
theorem Ls.depth {w:World} {L n:Nat} {xs:List Value} {d dp:Nat} (h:Ls w L n xs d dp) (q:Nat):Ls (w.setCell ⟨L,1,none⟩ (.int .i64 (q:Int))) L n xs q dp:=by
 obtain ⟨v,h1,h2,h3⟩:=h.code;have cf:∀ i,i≠1->(w.setCell ⟨L,1,none⟩ (.int .i64 (q:Int))).cell? ⟨L,i,none⟩=w.cell? ⟨L,i,none⟩:=fun i hi=>aq _ (fun e=>by injection e with _ e2 _;exact hi e2.symm);exact ⟨by simpa [World.setCell] using h.lt,⟨v,(cf 0 (by omega)).trans h1,au h2 (fun k hk _=>Below.heap_setCell _ _ _ _ (by have:=(h2.lt k hk).1;show k≠L;omega)),h3⟩,aw _ h.c1,(cf 2 (by omega)).trans h.c2,fun i=>by simpa using h.free i⟩
theorem Ls.deep {w:World} {L n:Nat} {xs:List Value} {d dp:Nat} (h:Ls w L n xs d dp) (q:Nat):Ls (w.setCell ⟨L,2,none⟩ (.int .i64 (q:Int))) L n xs d q:=by
 obtain ⟨v,h1,h2,h3⟩:=h.code;have cf:∀ i,i≠2->(w.setCell ⟨L,2,none⟩ (.int .i64 (q:Int))).cell? ⟨L,i,none⟩=w.cell? ⟨L,i,none⟩:=fun i hi=>aq _ (fun e=>by injection e with _ e2 _;exact hi e2.symm);exact ⟨by simpa [World.setCell] using h.lt,⟨v,(cf 0 (by omega)).trans h1,au h2 (fun k hk _=>Below.heap_setCell _ _ _ _ (by have:=(h2.lt k hk).1;show k≠L;omega)),h3⟩,(cf 1 (by omega)).trans h.c1,aw _ h.c2,fun i=>by simpa using h.free i⟩
theorem jB {w:World} {L i:Nat} (v:Value) {b:Nat} (hb:L<=b):Below L w (w.setCell ⟨b,i,none⟩ v):=
 ⟨rfl,rfl,rfl,by simp [World.setCell],fun k hk=>Below.heap_setCell _ _ _ _ (by show k≠b;omega)⟩
theorem Ar {L n:Nat} {xs:List Value} {v:Value} {w:World} (hv:w.cell? ⟨L,0,none⟩=some v) (hown:w.ownsRow (L+1) 152 9 v n xs) (hn:n<=100000) (hl:L < w.heap.size) (hf:w.frozen? ⟨L,0,none⟩=false) (kind next other slot depth:Int) (m:Nat->Bool) :
  Calls Tryz.prog 88 #[.pointer (some ⟨L,0,none⟩),.agg (ins kind next other slot depth m).toArray] w fun e w'=>e=.returned (.int .i64 n) /\
   Cu L (n+1) (xs++ins kind next other slot depth m) w w'/\aF L w w':=by
 obtain ⟨i0,hi,hz0,hz1,hz2⟩:=info_parts Tryz.Hq;have HO:=hid hown;have HV:=hid hv;have HF:=hid hf;have HL:=hid hl;clear hown;have hins:=Hp kind next other slot depth m;have HI:=hid hins;clear hins;unfold ins at *;go_enter Tryz.func88,Tryz.ntmps88
 go_wp2;go_region_law (refine eU rfl (.tmp 9) (.tmp 11) 108 rfl (L+1) 152 i0 _ 9 72 Tryz.underlying108 hi hz0 hz1 hz2 rfl (by decide) v n xs (by simp [Act.eval]) (((HO.out.alloc _).alloc _).drew) ⟨w.heap.size+1,0,none⟩ 1 1 _ (by simp [Act.eval]) rfl (by exact fJ (w.alloc _) _ _ _ (by simp)) HI.out (by unfold maxLen;omega) (by omega) (by simp;omega) (by decide) ?_;intro g c w' hown' hgrow hor;have c0':=((lg ((HO.out.alloc _).alloc _).drew hgrow (p:=⟨L,0,none⟩) (Oz _) (by simp;omega)).trans (((Kp.alloc [] _ _).trans ((Kp.alloc _ _ _).trans (Kp.drew _ _))).cell HL.out (by simp))).trans HV.out;have f0':=((jZ ((HO.out.alloc _).alloc _).drew hgrow (p:=⟨L,0,none⟩) (Oz _) (by simp;omega)).trans (((Kp.alloc [] _ _).trans ((Kp.alloc _ _ _).trans (Kp.drew _ _))).frozen HL.out (by simp))).trans HF.out;have HO':=hid hown';have HG:=hid hgrow;have HR:=hid hor;clear hown' hgrow hor)
 all_goals go_wp2
 all_goals go_ret
 all_goals exact ⟨rfl,Cq HL.out HV.out ((Kp.alloc _ _ _).trans ((Kp.alloc _ _ _).trans (Kp.drew _ _))) ((HO.out.alloc _).alloc _).drew HG.out HO'.out,CI HV.out ((Kp.alloc _ _ _).trans ((Kp.alloc _ _ _).trans (Kp.drew _ _))) HG.out HR.out c0'⟩
theorem tm {L n:Nat} {xs:List Value} {d dp:Nat} {w:World} (h:Ls w L n xs d dp) (hn:n<=100000) (kind next other slot depth:Int) (m:Nat->Bool) :
  Calls Tryz.prog 88 #[.pointer (some ⟨L,0,none⟩),.agg (ins kind next other slot depth m).toArray] w fun e w'=>e=.returned (.int .i64 n)/\Ls w' L (n+1) (xs++ins kind next other slot depth m) d dp/\Below L w w'/\aF L w w':=by
 obtain ⟨v,h1,h2,_⟩:=h.code;exact (Ar h1 h2 hn h.lt (h.free 0) kind next other slot depth m).mono fun e w' ⟨he,ha,hs⟩=>⟨he,h.added ha,ha.below,hs⟩
theorem Hj {L n:Nat} {xs:List Value} {d dp:Nat} {w:World} (h:Ls w L n xs d dp) (hn:n<=100000) (kind next other slot depth:Int) :
  Calls Tryz.prog 88 #[.pointer (some ⟨L,0,none⟩),.agg (Ds kind next other slot depth).toArray] w fun e w'=>e=.returned (.int .i64 n)/\Ls w' L (n+1) (xs++Ds kind next other slot depth) d dp/\Below L w w'/\aF L w w':=by
 have:=tm h hn kind next other slot depth dt;rw [oD] at this;exact this
theorem GS {L n:Nat} {xs:List Value} {d dp:Nat} {w:World} (h:Ls w L n xs d dp) (hn:n<=100000) (next:Int) (m:Nat->Bool) :
  Calls Tryz.prog 233 #[yA m,.pointer (some ⟨L,0,none⟩),.int .i64 next] w fun e w'=>e=.returned (.int .i64 n)/\Ls w' L (n+1) (xs++ins 0 next 0 0 d m) d dp/\Below L w w'/\aF L w w':=by
 have c1:=h.c1;have hl:=h.lt;go_enter Tryz.func233,Tryz.ntmps233
 go_wp2;go_region_with (go_at_call 88;refine (tm (h.aj (by exact (Kp.alloc _ _ _).trans (Kp.drew _ _))) hn 0 next 0 0 d m).mono ?_;rintro e w1 ⟨rfl,h1,b1,s1⟩)
 all_goals go_wp2
 all_goals go_ret
 all_goals exact ⟨rfl,h1,(((Below.refl L w).alloc (by omega) _).drew).trans b1,(aF.aj hl ((Kp.alloc _ _ _).trans (Kp.drew _ _))).trans s1⟩
theorem Ls.stored {w:World} {L n g c:Nat} {xs:List Value} {d dp:Nat} (h:Ls w L n xs d dp) (hv:w.cell? ⟨L,0,none⟩=some (.slice (some ⟨g,0,none⟩) n c)) (j:Nat) (u:Value) :
  Ls (w.setCell ⟨g,j,none⟩ u) L n (xs.set j u) d dp/\Below L w (w.setCell ⟨g,j,none⟩ u)/\aF L w (w.setCell ⟨g,j,none⟩ u):=by
 obtain ⟨v,h1,h2,h3⟩:=h.code;have e:v=.slice (some ⟨g,0,none⟩) n c:=Option.some.inj (h1.symm.trans hv);subst e;have hg:=(h2.lt g (by simp [Value.ownBlock])).1;have cf:∀ i,(w.setCell ⟨g,j,none⟩ u).cell? ⟨L,i,none⟩=w.cell? ⟨L,i,none⟩:=fun i=>aq _ (fun e=>by injection e with e1 _ _;omega);refine ⟨⟨by simpa [World.setCell] using h.lt,⟨_,(cf 0).trans h1,(h2.stored j u).1,h3⟩,(cf 1).trans h.c1,(cf 2).trans h.c2,fun i=>by simpa using h.free i⟩,jB _ (by omega),fun T s=>?_⟩;have hne:T≠g:=fun e=>s.2.2 _ h1 (by simp [Value.ownBlock,e]);refine ⟨⟨by simpa [World.setCell] using s.1,s.2.1,fun v' hv'=>s.2.2 v' ?_⟩,Below.heap_setCell _ _ _ _ hne⟩
 rwa [cf 0] at hv'
section
variable {cd:Nat->In} {n D:Nat} {text:ByteArray}
theorem iA {pl:Nat} {r:Mc}:∀ (k:Nat) (o:Option Thr) (s:Mc),drive cd n D text pl k o s=some r->drive cd n D text pl (k+1) o s=some r
 | 0,o,s,h=>by rw [drive] at h;cases h
 | k+1,some t,s,h=>by
  rw [drive] at h ⊢;split at h
  .next q=>rw [Ny q];exact iA k _ _ h
  .next q=>rw [Nr q];exact iA k _ _ h
 | k+1,none,s,h=>by
  rw [drive] at h ⊢
  cases e:s.left.getLast? with
  | none=>rw [e] at h;exact h
  | some t=>rw [e] at h;exact iA k _ _ h
theorem tN {pl:Nat} {r:Mc} {o:Option Thr} {s:Mc} {k:Nat} (h:drive cd n D text pl k o s=some r):∀ j,drive cd n D text pl (k+j) o s=some r
 | 0=>h
 | j+1=>iA _ _ _ (tN h j)
theorem xK {pl:Nat} {r r':Mc} {o:Option Thr} {s:Mc} {k k':Nat} (h:drive cd n D text pl k o s=some r) (h':drive cd n D text pl k' o s=some r'):r=r':=by
 have a:=tN h k';have b:=tN h' k;rw [Nat.add_comm k' k] at b;exact Option.some.inj (a.symm.trans b)
def sweepF (cd:Nat->In) (n D:Nat) (text:ByteArray) (F pl:Nat):List Thr->Mc->Option Mc
 | [],s=>some s
 | t::l,s=>if s.fd=true/\s.eX 0 < t.x 0 then some s else match drive cd n D text pl F (some t) s with
  | some s1=>sweepF cd n D text F pl l s1
  | none=>none
theorem uu {pl F:Nat} {r s':Mc}:∀ (l:List Thr) (s:Mc),Sweep cd n D text pl l s s'->sweepF cd n D text F pl l s=some r->s'=r
 | [],s,h,e=>by rw [Sweep] at h;rw [sweepF] at e;rw [h];exact Option.some.inj e
 | t::l,s,h,e=>by
  rw [Sweep] at h;rw [sweepF] at e;rcases h with ⟨h1,h2,h3⟩ | ⟨h1,s1,⟨k,h2⟩,h3⟩
  .rw [Ny ⟨h1,h2⟩] at e;rw [h3];exact Option.some.inj e
  .rw [Nr h1] at e
   cases q:drive cd n D text pl F (some t) s with
   | none=>rw [q] at e;cases e
   | some s2=>
    rw [q] at e;have:=xK h2 q;subst this;exact uu l s1 h3 e
def runsF (cd:Nat->In) (n D:Nat) (text:ByteArray) (bg F:Nat):Nat->Nat->List Thr->Mc->Option Mc
 | 0,_,_,s=>some s
 | k+1,pl,here,s=>match (if s.fd=true then here else here++[⟨bg,0,nz pl⟩]) with
  | []=>some s
  | t::l=>match sweepF cd n D text F pl (t::l) s with
   | some s1=>runsF cd n D text bg F k (pl+1) s1.ahead { s1 with ahead:=[] }
   | none=>none
theorem AY {bg F:Nat} {r s':Mc}:∀ (k pl:Nat) (here:List Thr) (s:Mc),Runs cd n D text bg k pl here s s'->runsF cd n D text bg F k pl here s=some r->s'=r
 | 0,pl,here,s,h,e=>by rw [Runs] at h;rw [runsF] at e;rw [h];exact Option.some.inj e
 | k+1,pl,here,s,h,e=>by
  rw [Runs] at h;rw [runsF] at e;generalize (if s.fd=true then here else here++[⟨bg,0,nz pl⟩])=hh at h e
  cases hh with
  | nil=>
   rcases h with ⟨_,h⟩ | ⟨h,_⟩
   .rw [h];exact Option.some.inj e
   .exact absurd rfl h
  | cons t l=>
   rcases h with ⟨h,_⟩ | ⟨_,s1,h1,h2⟩
   .cases h
   .cases q:sweepF cd n D text F pl (t::l) s with
    | none=>simp only [q] at e;cases e
    | some s2=>
     simp only [q] at e;have:=uu _ _ h1 q;subst this;exact AY k (pl+1) _ _ h2 e
end
