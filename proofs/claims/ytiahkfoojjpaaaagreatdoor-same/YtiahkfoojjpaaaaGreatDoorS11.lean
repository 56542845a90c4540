import Derived.Test.YtiahkfoojjpaaaaGreatDoorS08
import Derived.Test.YtiahkfoojjpaaaaGreatDoorS10
import Derived.Shelf.Strings.Builder1
set_option maxRecDepth 100000
set_option maxHeartbeats 16000000
set_option linter.all false
namespace Go.Proofs.YtiahkfoojjpaaaaGreatDoor
open Go.RowKit
def lR(cd:Nat->In)(text:ByteArray)(pl pc tk:Nat):List (Nat×Nat):=
 if (cd pc).kind=1 then (if pl=0 then [((cd pc).nx,tk)] else [])
 else if (cd pc).kind=2 then (if pl=text.size then [((cd pc).nx,tk)] else [])
 else if (cd pc).kind=3 then [((cd pc).nx,tk)]
 else if (cd pc).kind=4 then [((cd pc).nx,tk),((cd pc).ot,tk)]
 else if (cd pc).kind=5 then (if tk<=(cd pc).dp then [] else [((cd pc).nx,(cd pc).dp)])
 else []
def fM(cd:Nat->In)(pl pc:Nat)(x:Nat->Int):Nat->Int:=if (cd pc).kind=3 then nu x (cd pc).sl pl else x
def eps(cd:Nat->In)(text:ByteArray)(pl:Nat)(t:Thr):List Thr:=(lR cd text pl t.pc t.tk).map fun c=>⟨c.1,c.2,fM cd pl t.pc t.x⟩
def fJ(cd:Nat->In)(text:ByteArray)(pl:Nat)(t:Thr):Bool:=
 decide ((cd t.pc).kind=0)&&(if h:pl<text.size then (cd t.pc).m (text[pl]'h).toNat else false)
def behind(cd:Nat->In)(t:Thr):Thr:=⟨(cd t.pc).nx,(cd t.pc).dp,t.x⟩
theorem Mu{cd:Nat->In}{text:ByteArray}{pl:Nat}{t:Thr}(hk:(cd t.pc).kind<=6)(s:Mc):aM cd text pl t s=((eps cd text pl t).head?,{ s with ahead:=s.ahead++(if fJ cd text pl t=true then [behind cd t] else []),left:=s.left++(eps cd text pl t).tail,fd:=(s.fd||decide ((cd t.pc).kind=6)),fc:=if (cd t.pc).kind=6 then nu t.x 1 pl else s.fc}):=by
 rcases nG hk with e|e|e|e|e|e|e
 .by_cases hlt:pl<text.size
  .by_cases hm:(cd t.pc).m (text[pl]).toNat=true
   .simp[aM,eps,lR,fM,fJ,behind,e,hlt,hm]
   .simp[aM,eps,lR,fM,fJ,e,hlt,hm]
  .simp[aM,eps,lR,fM,fJ,e,hlt]
 .by_cases h0:pl=0<;>simp[aM,eps,lR,fM,fJ,e,h0]
 .by_cases h0:pl=text.size<;>simp[aM,eps,lR,fM,fJ,e,h0]
 .simp[aM,eps,lR,fM,fJ,e]
 .simp[aM,eps,lR,fM,fJ,e]
 .by_cases h0:t.tk<=(cd t.pc).dp<;>simp[aM,eps,lR,fM,fJ,e,h0]
 .simp[aM,eps,lR,fM,fJ,e]
inductive Way(cd:Nat->In)(text:ByteArray)(bg fr:Nat):Nat->Thr->Prop
 | start (a:Nat) (h:fr<=a) (h2:a<=text.size):Way cd text bg fr a ⟨bg,0,nz a⟩
 | eps {pl:Nat} {t u:Thr} (h:Way cd text bg fr pl t) (hu:u∈eps cd text pl t):Way cd text bg fr pl u
 | byte {pl:Nat} {t:Thr} (h:Way cd text bg fr pl t) (hb:fJ cd text pl t=true):Way cd text bg fr (pl+1) (behind cd t)
structure Cok(cd:Nat->In)(n D bg:Nat):Prop where
 ok:∀a,a<n->(cd a).kind<=6/\(cd a).nx<n/\(cd a).ot<n/\(cd a).sl<20/\(cd a).dp<=D
 sl:∀a,a<n->(cd a).kind=3->2<=(cd a).sl
 bg:bg<n
section
variable {cd:Nat->In}{n D bg fr pl:Nat}{text:ByteArray}{t u:Thr}{s s':Mc}
theorem epsC_ok(hc:Cok cd n D bg){pc tk:Nat}(h1:pc<n)(h2:tk<=D){c:Nat×Nat}(hu:c∈lR cd text pl pc tk):c.1<n/\c.2<=D:=by
 have ok:=hc.ok pc h1;unfold lR at hu
 repeat' split at hu
 all_goals simp at hu
 all_goals first
  | (subst hu;exact⟨ok.2.1,by first|exact h2|exact ok.2.2.2.2⟩)
  | (rcases hu with rfl|rfl
     .exact⟨ok.2.1,h2⟩
     .exact⟨ok.2.2.1,h2⟩)
theorem Qe(hc:Cok cd n D bg)(ht:okT n D t)(hu:u∈eps cd text pl t):okT n D u:=by
 obtain⟨c,h1,rfl⟩:=List.mem_map.1 hu;exact epsC_ok hc ht.1 ht.2 h1
theorem eps_x(hc:Cok cd n D bg)(ht:okT n D t)(hu:u∈eps cd text pl t):u.x 0=t.x 0:=by
 have sl:=hc.sl t.pc ht.1;obtain⟨c,_,rfl⟩:=List.mem_map.1 hu;show fM cd pl t.pc t.x 0=_;unfold fM;split
 .have:=sl (by assumption);unfold nu;rw[Qw (by omega)]
 .rfl
theorem Ae(hc:Cok cd n D bg)(ht:okT n D t):okT n D (behind cd t):=⟨(hc.ok t.pc ht.1).2.1,(hc.ok t.pc ht.1).2.2.2.2⟩
theorem Way.ok(hc:Cok cd n D bg)(h:Way cd text bg fr pl t):okT n D t:=by
 induction h with
 | start a _ _=>exact⟨hc.bg,QG _⟩
 | eps _ hu ih=>exact Qe hc ih hu
 | byte _ _ ih=>exact Ae hc ih
end
section
variable {cd:Nat->In}{n D bg fr pl:Nat}{text:ByteArray}{t u v:Thr}{s s' s1:Mc}
def Vd(cd:Nat->In)(text:ByteArray)(bg fr:Nat)(s:Mc):Prop:=s.fd=true->∃e t,Way cd text bg fr e t/\(cd t.pc).kind=6/\s.fc=nu t.x 1 e
theorem F9{α:Type}{l:List α}{q:α}(h:l.getLast? = some q):l=l.dropLast++[q]:=by
 rcases RY l with rfl|⟨m,z,rfl⟩
 .cases h
 .rw[RZ] at h ⊢;simp at h;subst h;simp
theorem zC(t:Thr):∀u,u∈eps cd text pl t ↔ u∈(eps cd text pl t).head?.toList++(eps cd text pl t).tail:=by
 intro u
 cases eps cd text pl t<;>simp
theorem iB(hc:Cok cd n D bg):∀(k:Nat) (o:Option Thr) (s s':Mc),eQ cd n D text pl k o s=some s'->(∀t∈o.toList++s.left,Way cd text bg fr pl t)->(∀t∈s.ahead,Way cd text bg fr (pl+1) t)->Vd cd text bg fr s ->
  (∀t∈s'.ahead,Way cd text bg fr (pl+1) t)/\Vd cd text bg fr s'/\s'.left=[]
 | 0,_,_,_,h,_,_,_=>by cases h
 | k+1,some t,s,s',h,hp,ha,hv=>by
  have wt:=hp t (by simp);rw[eQ] at h;split at h
  .exact iB hc k none s s' h (fun q hq=>hp q (by simp at hq;simp[hq])) ha hv
  .rw[Mu (hc.ok _ (wt.ok hc).1).1] at h;refine iB hc k _ _ s' h (fun q hq=>?_) (fun q hq=>?_) (fun hf=>?_)
   .have hq':q∈s.left\/q∈eps cd text pl t:=by
     rcases List.mem_append.1 hq with e|e
     .exact .inr ((zC t q).2 (Sj _ e))
     .rcases List.mem_append.1 e with e|e
      .exact .inl e
      .exact .inr ((zC t q).2 (RX _ e))
    rcases hq' with e|e
    .exact hp q (by simp[e])
    .exact .eps wt e
   .rcases List.mem_append.1 hq with e|e
    .exact ha q e
    .split at e
     .rw[List.mem_singleton.1 e];exact .byte wt (by assumption)
     .cases e
   .by_cases h6:(cd t.pc).kind=6
    .exact⟨pl,t,wt,h6,by simp[h6]⟩
    .obtain⟨e,q,h1,h2,h3⟩:=hv (by simpa[h6] using hf);exact⟨e,q,h1,h2,by simp[h6];exact h3⟩
 | k+1,none,s,s',h,hp,ha,hv=>by
  rw[eQ] at h;split at h
  .rename_i hl
   cases h;exact⟨ha,hv,by simpa using hl⟩
  .rename_i q hl;have hd:∀z,z∈s.left.dropLast->z∈s.left:=fun z hz=>List.dropLast_subset _ hz
   exact iB hc k (some q) { s with left:=s.left.dropLast} s' h (fun z hz=>by
    have hz':z=q\/z∈s.left.dropLast:=by simpa using hz
    rcases hz' with e|e
    .rw[e];exact hp q (by simp[List.mem_of_getLast? hl])
    .exact hp z (by simp[hd z e])) ha hv
theorem jA(hc:Cok cd n D bg):∀(here:List Thr) (s s':Mc),jr cd n D text pl here s s'->(∀t∈here,Way cd text bg fr pl t)->s.left=[]->(∀t∈s.ahead,Way cd text bg fr (pl+1) t)->Vd cd text bg fr s ->
  (∀t∈s'.ahead,Way cd text bg fr (pl+1) t)/\Vd cd text bg fr s'/\s'.left=[]
 | [],s,s',h,_,hl,ha,hv=>by rw[show s'=s from h];exact⟨ha,hv,hl⟩
 | t::l,s,s',h,hh,hl,ha,hv=>by
  rcases h with⟨_,_,rfl⟩|⟨_,s1,⟨k,g⟩,q⟩
  .exact⟨ha,hv,hl⟩
  .obtain⟨a1,a2,a3⟩:=iB hc k (some t) s s1 g (fun z hz=>by
    have e:z=t:=by simpa[hl] using hz
    rw[e];exact hh t (by simp)) ha hv
   exact jA hc l s1 s' q (fun z hz=>hh z (by simp[hz])) a3 a1 a2
theorem rL(hc:Cok cd n D bg):∀(k pl:Nat) (here:List Thr) (s s':Mc),oW cd n D text bg k pl here s s'->k+pl=text.size+1->fr<=pl->(∀t∈here,Way cd text bg fr pl t)->s.left=[]->s.ahead=[]->Vd cd text bg fr s->Vd cd text bg fr s'
 | 0,pl,here,s,s',h,_,_,_,_,_,hv=>by rw[show s'=s from h];exact hv
 | k+1,pl,here,s,s',h,hk,hf,hh,hl,ha,hv=>by
  rcases h with⟨_,rfl⟩|⟨_,s1,sw,rn⟩
  .exact hv
  .obtain⟨a1,a2,a3⟩:=jA (fr:=fr) hc _ s s1 sw (fun z hz=>by
    split at hz
    .exact hh z hz
    .rcases List.mem_append.1 hz with e|e
     .exact hh z e
     .rw[List.mem_singleton.1 e];exact .start pl hf (by omega)) hl (by rw[ha];intro z hz;cases hz) hv
   exact rL hc k (pl+1) s1.ahead { s1 with ahead:=[]} s' rn (by omega) (by omega) a1 a3 rfl a2
end
end Go.Proofs.YtiahkfoojjpaaaaGreatDoor
namespace Go.Proofs.YtiahkfoojjpaaaaGreatDoor
open Go.RowKit Go.Shelf
def Tryz.qi:Go.Shelf.Ren:=⟨fun|169=>38|n=>n,fun|70=>73|9=>9|0=>0|72=>75|37=>49|127=>133|3=>3|5=>5|n=>n,fun|n=>n⟩
theorem Tryz.lays169:Go.Proofs.Lays.n169 Tryz.prog Tryz.qi:={
 mixed:=by kernel_rfl
 f169:=(Tryz.func38).trans (congrArg some (by kernel_rfl))
 t0:=Tryz.underlying0
 a0:=Tryz.isAgg0
 z0:=Tryz.sizeOf0
 v0:=Tryz.zeroValue0
 t3:=Tryz.underlying3
 a3:=Tryz.isAgg3
 z3:=Tryz.sizeOf3
 v3:=Tryz.zeroValue3
 t9:=Tryz.underlying9
 a9:=Tryz.isAgg9
 z9:=Tryz.sizeOf9
 v9:=Tryz.zeroValue9
 t37:=Tryz.underlying49
 a37:=Tryz.isAgg49
 z37:=Tryz.sizeOf49
 v37:=Tryz.zeroValue49
 t70:=Tryz.underlying73
 a70:=Tryz.isAgg73
 z70:=Tryz.sizeOf73
 v70:=Tryz.zeroValue73
 t72:=Tryz.underlying75
 a72:=Tryz.isAgg75
 z72:=Tryz.sizeOf75
 v72:=Tryz.zeroValue75
 t127:=Tryz.underlying133
 a127:=Tryz.isAgg133
 z127:=Tryz.sizeOf133
 v127:=Tryz.zeroValue133}
theorem Tryz.nW:Builder.Extra Tryz.prog Tryz.qi:={
 sizeBuilder:=by kernel_rfl
 liesBuilder:=by kernel_rfl
 t5:=Tryz.underlying5
 a5:=Tryz.isAgg5
 z5:=Tryz.sizeOf5
 v5:=Tryz.zeroValue5
 infoByte:=by kernel_rfl
 cellsByte:=by kernel_rfl
 sizeByte:=by kernel_rfl
 neB5:=by decide}
abbrev Bdr(B b:Nat)(l:List UInt8)(w:World):Prop:=Lib.IsBuilder 75 5 B b (Lib.byteCells l) w
theorem Eb{B b:Nat}{l:List UInt8}{w w':World}{p:Value}(k:Kp [] w w')(h:Lib.BuilderAt 75 5 B b p (Lib.byteCells l) w):Lib.BuilderAt 75 5 B b p (Lib.byteCells l) w':=by
 have hlt:=h.lt;obtain⟨hB,v,hb,ho,hn⟩:=h;exact⟨hB,v,(k.block b hlt (by simp)).trans hb,ag ho (fun q hq=>k.block q (aA ho hq).2 (by simp)),hn⟩
theorem Bdr.aj{B b:Nat}{l:List UInt8}{w w':World}(h:Bdr B b l w)(k:Kp [] w w'):Bdr B b l w':=by
 rcases h with h|h
 .exact .inl (Eb k h)
 .exact .inr (Eb k h)
theorem bdr_new(w:World):Bdr w.heap.size w.heap.size [] (w.alloc (.cells #[.pointer none,.slice none 0 0] 75)):=Lib.fresh_isBuilder _ _ w
theorem uV{w0 w w':World}(k:Kp [] w0 w)(b:Below w0.heap.size w w'):Kp [] w0 w':=
 ⟨b.os.trans k.os,b.tape.trans k.tape,b.output.trans k.output,QC k.size b.size,fun q hq _=>(b.block q hq).trans (k.block q hq (by simp))⟩
theorem sizeBdr:(Tryz.prog.info? 75).map (·.size)=some 2:=by kernel_rfl
theorem liesBdr:liesAt Tryz.prog Tryz.prog.depth 75 (2/Tryz.prog.cellsOf 75) 0 75 1=true:=by kernel_rfl
section
variable {w:World}{B b:Nat}{l:List UInt8}
theorem qE(h:Bdr B b l w):Calls Tryz.prog 53 #[.pointer (some ⟨b,0,none⟩)] w fun e w'=>e=.returned (.tuple #[])/\Lib.BuilderAt 75 5 B b (.pointer (some ⟨b,0,none⟩)) (Lib.byteCells l) w'/\Below B w w':=by
 obtain⟨j,hj,hjs⟩:=Option.map_eq_some_iff.1 sizeBdr;rcases h with h|h
 .have h0:=h.cell0;have hsh:=h.shape;have hfz:=h.frozen0;have H:=hid h;clear h;go_enter Tryz.func53,Tryz.ntmps53
  go_wp2;rw[Lib.run_to_unsafe w ⟨b,0,none⟩ Tryz.underlying73 Tryz.underlying166 hj (by rw[hjs];decide) hsh (Nat.zero_lt_succ 1)];simp only[Result.andThen];rw[Oper.upon_value];go_wp2;rw[run_callFunc_extern Tryz.func107 (by kernel_rfl) (by kernel_rfl) (by kernel_rfl) (e:=Extern.AbiNoEscape.same) (by kernel_rfl),Lib.run_noEscape];simp only[Result.andThen];rw[Oper.upon_value];go_wp2;rw[Lib.run_from_unsafe w ⟨b,0,none⟩ Tryz.underlying166 Tryz.underlying73 hj hsh liesBdr];simp only[Result.andThen];rw[Oper.upon_value];go_wp2;go_end0;exact⟨rfl,H.out.used _,(Below.refl B w).setCell (p:=⟨b,0,none⟩) H.out.1 _⟩
 .have h0:=h.cell0;have H:=hid h;clear h;go_enter Tryz.func53,Tryz.ntmps53
  go_wp2;rw[Lib.run_neq_ptr_same w _ Tryz.underlying73 hj];go_wp2;go_end0;exact⟨rfl,H.out,Below.refl B _⟩
theorem tX(s:ByteArray)(h:Bdr B b l w)(hlen:l.length+s.size<=100000000000)(hBw:B<=w.heap.size):Calls Tryz.prog 36 #[.pointer (some ⟨b,0,none⟩),.string s] w fun e w'=>e=.returned (.tuple #[.int .i64 s.size,.nilIface])/\Bdr B b (l++s.data.toList) w'/\Below B w w':=by
 obtain⟨i0,hi,hz0,hz1,hz2⟩:=info_parts Tryz.infoByte;have HI:=hid (And.intro hi (And.intro hz0 (And.intro hz1 hz2)));have HC:=hid (qE h);clear hi hz0 hz1 hz2 h;go_enter Tryz.func36,Tryz.ntmps36
 go_wp2_with fail;refine HC.out.mono ?_;rintro e w1 ⟨rfl,h1,hb1⟩;have hlt:=h1.lt;obtain⟨hB,v,hbk,hown,hne⟩:=h1;have c0:w1.cell? ⟨b,0,none⟩=some (.pointer (some ⟨b,0,none⟩)):=by rw[Lib.cell_of_heap hbk];rfl
 have c1:w1.cell? ⟨b,1,none⟩=some v:=by rw[Lib.cell_of_heap hbk];rfl
 have hsz:=hb1.size;have HL:(Lib.byteCells l).length=l.length:=by simp[Lib.byteCells]
 rw[HL] at hown;go_wp2_with (at_builtin;refine Lib.wpList_append_own_string _ rfl _ _ 49 9 rfl B 5 i0 Tryz.underlying49 Tryz.underlying9 HI.out.1 HI.out.2.1 HI.out.2.2.1 HI.out.2.2.2 _ _ _ rfl hown s rfl ?c3 ?c4 ?c5 ?_)
 case c3=>unfold maxLen;omega
 case c4=>omega
 case c5=>omega
 intro v' w2 hown' hgrow _;have hb2:w2.heap[b]? = some (.cells #[.pointer (some ⟨b,0,none⟩),v] 75 (0,0)):=by
  rw[hgrow.block b hlt (fun e=>hne e.symm)];exact hbk
 have d0:w2.cell? ⟨b,0,none⟩=some (.pointer (some ⟨b,0,none⟩)):=by rw[Lib.cell_of_heap hb2];rfl
 have d1:w2.cell? ⟨b,1,none⟩=some v:=by rw[Lib.cell_of_heap hb2];rfl
 have f1:w2.frozen? ⟨b,1,none⟩=false:=Lib.frozen_of_heap hb2 1;obtain⟨ao,n',cap,rfl⟩:∃ao n' cap,v'=.slice ao n' cap:=by
  rcases hown'.2 with⟨hv,_⟩|⟨g,cap,cur,hv,_⟩
  .exact⟨_,_,_,hv⟩
  .exact⟨_,_,_,hv⟩
 go_wp2;go_ret2
 refine⟨rfl,.inr ?_,?_⟩
 .exact Lib.BuilderAt.put hB hb2 (by simpa[Lib.strCells,Lib.byteCells] using hown') (by decide)
 .exact(hb1.grown hgrow (by omega) (fun k hk=>(hown.lt k hk).1)).setCell (p:=⟨b,1,none⟩) hB _
theorem Av(c:UInt8)(h:Bdr B b l w)(hlen:l.length<=100000000000)(hBw:B<=w.heap.size):Calls Tryz.prog 54 #[.pointer (some ⟨b,0,none⟩),.int .u8 (c.toNat:Int)] w fun e w'=>e=.returned .nilIface/\Bdr B b (l++[c]) w'/\Below B w w':=by
 obtain⟨i0,hi,hz0,hz1,hz2⟩:=info_parts Tryz.infoByte;have HI:=hid (And.intro hi (And.intro hz0 (And.intro hz1 hz2)));have HC:=hid (qE h);clear hi hz0 hz1 hz2 h;go_enter Tryz.func54,Tryz.ntmps54
 go_wp2_with fail;refine HC.out.mono ?_;rintro e w1 ⟨rfl,h1,hb1⟩;have hlt:=h1.lt;obtain⟨hB,v,hbk,hown,hne⟩:=h1;have c0:w1.cell? ⟨b,0,none⟩=some (.pointer (some ⟨b,0,none⟩)):=by rw[Lib.cell_of_heap hbk];rfl
 have c1:w1.cell? ⟨b,1,none⟩=some v:=by rw[Lib.cell_of_heap hbk];rfl
 have hsz:=hb1.size;have HL:(Lib.byteCells l).length=l.length:=by simp[Lib.byteCells]
 rw[HL] at hown;go_wp2_with (at_builtin;refine wpList_append_own _ rfl _ _ 49 rfl B 5 i0 (.int .u8 0) 1 1 Tryz.underlying49 HI.out.1 HI.out.2.1 HI.out.2.2.1 HI.out.2.2.2 rfl (by decide) _ _ _ rfl (hown.alloc _) ⟨w1.heap.size,0,none⟩ 1 1 [.int .u8 (c.toNat:Int)] rfl rfl ?c1 ?c2 ?c3 ?c4 ?c5 ?_)
 case c1=>
  intro j u hj
  match j,hj with
  | 0,hj=>simp at hj;subst hj;simp[Addr.add]
 case c2=>intro u hu;simp at hu;subst hu;rfl
 case c3=>unfold maxLen;omega
 case c4=>omega
 case c5=>simp;omega
 intro v' w2 hown' hgrow _;have hb2:w2.heap[b]? = some (.cells #[.pointer (some ⟨b,0,none⟩),v] 75 (0,0)):=by
  rw[hgrow.block b (by simp;omega) (fun e=>hne e.symm),Lib.alloc_old w1 _ b hlt];exact hbk
 have d0:w2.cell? ⟨b,0,none⟩=some (.pointer (some ⟨b,0,none⟩)):=by rw[Lib.cell_of_heap hb2];rfl
 have d1:w2.cell? ⟨b,1,none⟩=some v:=by rw[Lib.cell_of_heap hb2];rfl
 have f1:w2.frozen? ⟨b,1,none⟩=false:=Lib.frozen_of_heap hb2 1;obtain⟨g,cap,rfl⟩:∃g cap,v'=.slice (some ⟨g,0,none⟩) (l.length+1) cap:=by
  rcases hown'.2 with⟨_,h0⟩|⟨g,cap,cur,hv,_⟩
  .omega
  .exact⟨g,cap,hv⟩
 go_wp2;go_ret;refine⟨rfl,.inr ?_,?_⟩
 .exact Lib.BuilderAt.put hB hb2 (by simpa[Lib.byteCells] using hown') (by decide)
 .exact((hb1.alloc (by omega) _).grown hgrow (by simp;omega) (fun k hk=>(hown.lt k hk).1)).setCell (p:=⟨b,1,none⟩) hB _
theorem Le(h:Bdr B b l w)(hBw:B<=w.heap.size):Calls Tryz.prog 38 #[.pointer (some ⟨b,0,none⟩)] w fun e w'=>e=.returned (.string (ba l))/\Below B w w':=
 Any.Builder_String_any Tryz.lays169 Tryz.nW B b l w h hBw
end
