import Derived.Test.YtiahkfoojjpaaaaGreatDoorT09
import Derived.Test.YtiahkfoojjpaaaaGreatDoorT12
set_option maxRecDepth 100000
set_option maxHeartbeats 16000000
set_option linter.all false
namespace Go.Proofs.YtiahkfoojjpaaaaGreatDoor
open Go.RowKit
def jL (cd:Nat->In) (text:ByteArray) (pl pc tk:Nat):List (Nat×Nat):=
 if (cd pc).kind=1 then (if pl=0 then [((cd pc).nx,tk)] else [])
 else if (cd pc).kind=2 then (if pl=text.size then [((cd pc).nx,tk)] else [])
 else if (cd pc).kind=3 then [((cd pc).nx,tk)]
 else if (cd pc).kind=4 then [((cd pc).nx,tk),((cd pc).ot,tk)]
 else if (cd pc).kind=5 then (if tk<=(cd pc).dp then [] else [((cd pc).nx,(cd pc).dp)])
 else []
def eX (cd:Nat->In) (pl pc:Nat) (x:Nat->Int):Nat->Int:=if (cd pc).kind=3 then nu x (cd pc).sl pl else x
def eps (cd:Nat->In) (text:ByteArray) (pl:Nat) (t:Thr):List Thr:=(jL cd text pl t.pc t.tk).map fun c=>⟨c.1,c.2,eX cd pl t.pc t.x⟩
def eV (cd:Nat->In) (text:ByteArray) (pl:Nat) (t:Thr):Bool:=
 decide ((cd t.pc).kind=0) && (if h:pl < text.size then (cd t.pc).m (text[pl]'h).toNat else false)
def behind (cd:Nat->In) (t:Thr):Thr:=⟨(cd t.pc).nx,(cd t.pc).dp,t.x⟩
theorem JL {cd:Nat->In} {text:ByteArray} {pl:Nat} {t:Thr} (hk:(cd t.pc).kind<=6) (s:Mc) :
  aJ cd text pl t s=((eps cd text pl t).head?,{ s with ahead:=s.ahead++(if eV cd text pl t=true then [behind cd t] else []),left:=s.left++(eps cd text pl t).tail,fd:=(s.fd || decide ((cd t.pc).kind=6)),dQ:=if (cd t.pc).kind=6 then nu t.x 1 pl else s.dQ }):=by
 rcases lj hk with e | e | e | e | e | e | e
 .by_cases hlt:pl < text.size
  .by_cases hm:(cd t.pc).m (text[pl]).toNat=true
   .simp [aJ,eps,jL,eX,eV,behind,e,hlt,hm]
   .simp [aJ,eps,jL,eX,eV,e,hlt,hm]
  .simp [aJ,eps,jL,eX,eV,e,hlt]
 .by_cases h0:pl=0 <;> simp [aJ,eps,jL,eX,eV,e,h0]
 .by_cases h0:pl=text.size <;> simp [aJ,eps,jL,eX,eV,e,h0]
 .simp [aJ,eps,jL,eX,eV,e]
 .simp [aJ,eps,jL,eX,eV,e]
 .by_cases h0:t.tk<=(cd t.pc).dp <;> simp [aJ,eps,jL,eX,eV,e,h0]
 .simp [aJ,eps,jL,eX,eV,e]
inductive Way (cd:Nat->In) (text:ByteArray) (bg fr:Nat):Nat->Thr->Prop
 | start (a:Nat) (h:fr<=a) (h2:a<=text.size):Way cd text bg fr a ⟨bg,0,nz a⟩
 | eps {pl:Nat} {t u:Thr} (h:Way cd text bg fr pl t) (hu:u∈eps cd text pl t):Way cd text bg fr pl u
 | byte {pl:Nat} {t:Thr} (h:Way cd text bg fr pl t) (hb:eV cd text pl t=true):Way cd text bg fr (pl+1) (behind cd t)
structure Cok (cd:Nat->In) (n D bg:Nat):Prop where
 ok:∀ a,a < n->(cd a).kind<=6/\(cd a).nx < n/\(cd a).ot < n/\(cd a).sl < 20/\(cd a).dp<=D
 sl:∀ a,a < n->(cd a).kind=3->2<=(cd a).sl
 bg:bg < n
section
variable {cd:Nat->In} {n D bg fr pl:Nat} {text:ByteArray} {t u:Thr} {s s':Mc}
theorem epsC_ok (hc:Cok cd n D bg) {pc tk:Nat} (h1:pc < n) (h2:tk<=D) {c:Nat×Nat} (hu:c∈jL cd text pl pc tk):c.1 < n/\c.2<=D:=by
 have ok:=hc.ok pc h1;unfold jL at hu
 repeat' split at hu
 all_goals simp at hu
 all_goals first
  | (subst hu;exact ⟨ok.2.1,by first | exact h2 | exact ok.2.2.2.2⟩)
  | (rcases hu with rfl | rfl
     .exact ⟨ok.2.1,h2⟩
     .exact ⟨ok.2.2.1,h2⟩)
theorem MX (hc:Cok cd n D bg) (ht:okT n D t) (hu:u∈eps cd text pl t):okT n D u:=by
 obtain ⟨c,h1,rfl⟩:=List.mem_map.1 hu;exact epsC_ok hc ht.1 ht.2 h1
theorem eps_x (hc:Cok cd n D bg) (ht:okT n D t) (hu:u∈eps cd text pl t):u.x 0=t.x 0:=by
 have sl:=hc.sl t.pc ht.1;obtain ⟨c,_,rfl⟩:=List.mem_map.1 hu;show eX cd pl t.pc t.x 0=_;unfold eX;split
 .have:=sl (by assumption);unfold nu;rw [Nr (by omega)]
 .rfl
theorem yc (hc:Cok cd n D bg) (ht:okT n D t):okT n D (behind cd t):=⟨(hc.ok t.pc ht.1).2.1,(hc.ok t.pc ht.1).2.2.2.2⟩
theorem Way.ok (hc:Cok cd n D bg) (h:Way cd text bg fr pl t):okT n D t:=by
 induction h with
 | start a _ _=>exact ⟨hc.bg,NI _⟩
 | eps _ hu ih=>exact MX hc ih hu
 | byte _ _ ih=>exact yc hc ih
end
section
variable {cd:Nat->In} {n D bg fr pl:Nat} {text:ByteArray} {t u v:Thr} {s s' s1:Mc}
def Vd (cd:Nat->In) (text:ByteArray) (bg fr:Nat) (s:Mc):Prop:=s.fd=true->∃ e t,Way cd text bg fr e t/\(cd t.pc).kind=6/\s.dQ=nu t.x 1 e
theorem Ds {α:Type} {l:List α} {q:α} (h:l.getLast? = some q):l=l.dropLast++[q]:=by
 rcases OC l with rfl | ⟨m,z,rfl⟩
 .cases h
 .rw [OE] at h ⊢;simp at h;subst h;simp
theorem xK (t:Thr):∀ u,u∈eps cd text pl t ↔ u∈(eps cd text pl t).head?.toList++(eps cd text pl t).tail:=by
 intro u
 cases eps cd text pl t <;> simp
theorem gQ (hc:Cok cd n D bg):∀ (k:Nat) (o:Option Thr) (s s':Mc),drive cd n D text pl k o s=some s'->(∀ t∈o.toList++s.left,Way cd text bg fr pl t)->(∀ t∈s.ahead,Way cd text bg fr (pl+1) t)->Vd cd text bg fr s ->
  (∀ t∈s'.ahead,Way cd text bg fr (pl+1) t)/\Vd cd text bg fr s'/\s'.left=[]
 | 0,_,_,_,h,_,_,_=>by cases h
 | k+1,some t,s,s',h,hp,ha,hv=>by
  have wt:=hp t (by simp);rw [drive] at h;split at h
  .exact gQ hc k none s s' h (fun q hq=>hp q (by simp at hq;simp [hq])) ha hv
  .rw [JL (hc.ok _ (wt.ok hc).1).1] at h;refine gQ hc k _ _ s' h (fun q hq=>?_) (fun q hq=>?_) (fun hf=>?_)
   .have hq':q∈s.left\/q∈eps cd text pl t:=by
     rcases List.mem_append.1 hq with e | e
     .exact .inr ((xK t q).2 (OV _ e))
     .rcases List.mem_append.1 e with e | e
      .exact .inl e
      .exact .inr ((xK t q).2 (OA _ e))
    rcases hq' with e | e
    .exact hp q (by simp [e])
    .exact .eps wt e
   .rcases List.mem_append.1 hq with e | e
    .exact ha q e
    .split at e
     .rw [List.mem_singleton.1 e];exact .byte wt (by assumption)
     .cases e
   .by_cases h6:(cd t.pc).kind=6
    .exact ⟨pl,t,wt,h6,by simp [h6]⟩
    .obtain ⟨e,q,h1,h2,h3⟩:=hv (by simpa [h6] using hf);exact ⟨e,q,h1,h2,by simp [h6];exact h3⟩
 | k+1,none,s,s',h,hp,ha,hv=>by
  rw [drive] at h;split at h
  .rename_i hl
   cases h;exact ⟨ha,hv,by simpa using hl⟩
  .rename_i q hl;have hd:∀ z,z∈s.left.dropLast->z∈s.left:=fun z hz=>List.dropLast_subset _ hz
   exact gQ hc k (some q) { s with left:=s.left.dropLast } s' h (fun z hz=>by
    have hz':z=q\/z∈s.left.dropLast:=by simpa using hz
    rcases hz' with e | e
    .rw [e];exact hp q (by simp [List.mem_of_getLast? hl])
    .exact hp z (by simp [hd z e])) ha hv
theorem iQ (hc:Cok cd n D bg):∀ (here:List Thr) (s s':Mc),Sweep cd n D text pl here s s'->(∀ t∈here,Way cd text bg fr pl t)->s.left=[]->(∀ t∈s.ahead,Way cd text bg fr (pl+1) t)->Vd cd text bg fr s ->
  (∀ t∈s'.ahead,Way cd text bg fr (pl+1) t)/\Vd cd text bg fr s'/\s'.left=[]
 | [],s,s',h,_,hl,ha,hv=>by rw [show s'=s from h];exact ⟨ha,hv,hl⟩
 | t::l,s,s',h,hh,hl,ha,hv=>by
  rcases h with ⟨_,_,rfl⟩ | ⟨_,s1,⟨k,g⟩,q⟩
  .exact ⟨ha,hv,hl⟩
  .obtain ⟨a1,a2,a3⟩:=gQ hc k (some t) s s1 g (fun z hz=>by
    have e:z=t:=by simpa [hl] using hz
    rw [e];exact hh t (by simp)) ha hv
   exact iQ hc l s1 s' q (fun z hz=>hh z (by simp [hz])) a3 a1 a2
theorem qg (hc:Cok cd n D bg):∀ (k pl:Nat) (here:List Thr) (s s':Mc),Runs cd n D text bg k pl here s s'->k+pl=text.size+1->fr<=pl->(∀ t∈here,Way cd text bg fr pl t)->s.left=[]->s.ahead=[]->Vd cd text bg fr s->Vd cd text bg fr s'
 | 0,pl,here,s,s',h,_,_,_,_,_,hv=>by rw [show s'=s from h];exact hv
 | k+1,pl,here,s,s',h,hk,hf,hh,hl,ha,hv=>by
  rcases h with ⟨_,rfl⟩ | ⟨_,s1,sw,rn⟩
  .exact hv
  .obtain ⟨a1,a2,a3⟩:=iQ (fr:=fr) hc _ s s1 sw (fun z hz=>by
    split at hz
    .exact hh z hz
    .rcases List.mem_append.1 hz with e | e
     .exact hh z e
     .rw [List.mem_singleton.1 e];exact .start pl hf (by omega)) hl (by rw [ha];intro z hz;cases hz) hv
   exact qg hc k (pl+1) s1.ahead { s1 with ahead:=[] } s' rn (by omega) (by omega) a1 a3 rfl a2
end
section
variable {w0 w w' w2:World} {mb sb db lo hi:Nat} {s s':Mst} {σ:Sst}
theorem ML (mb db:Nat) (r:Mrw) (rg:List Bool):maB mb db { r with rg:=rg }=maB mb db r:=by
 funext j
 rcases j with _ | _ | _ | _ | _ | _ | j <;> rfl
theorem Mac.Fj {i g c:Nat} (h:Mac w0 w mb sb db s) (hg:s.r.vr=.slice (some ⟨g,0,none⟩) s.r.rg.length c) (b:Bool) :
  Mac w0 (w.setCell ⟨g,i,none⟩ (.bool b)) mb sb db { s with r:={ s.r with rg:=s.r.rg.set i b } }/\Gr mb db w s.r (w.setCell ⟨g,i,none⟩ (.bool b)) { s.r with rg:=s.r.rg.set i b }:=by
 have m4:maB mb db s.r 4=some g:=by show s.r.vr.ownBlock=_;rw [hg];rfl
 have gm:g≠mb:=fun e=>by have:=h.r.bk.ne 4 0 g m4 (by rw [e];rfl);omega
 have ks:Kp [g] w (w.setCell ⟨g,i,none⟩ (.bool b)):=Kp.setCell _ _ (by simp);have hh:∀ j p,j≠4->maB mb db s.r j=some p->(w.setCell ⟨g,i,none⟩ (.bool b)).heap[p]? = w.heap[p]?:=fun j p h4 hp=>ks.block p (h.r.bk.hi j p hp) (fun e=>h4 (h.r.bk.ne j 4 p hp (by simp at e;rw [e];exact m4)));have lo0:=h.r.kp.size;refine ⟨⟨h.b.aj ks (by simpa using Ne.symm gm),⟨⟨ks.os.trans h.r.kp.os,ks.tape.trans h.r.kp.tape,ks.output.trans h.r.kp.output,Nx lo0 ks.size,fun j hj _=>(ks.block j (Ns hj lo0) (fun e=>?_)).trans (h.r.kp.block j hj (by simp))⟩,ai h.r.o2 (fun p hp=>hh 2 p (by omega) hp),ai h.r.o3 (fun p hp=>hh 3 p (by omega) hp),fun j u hu=>?_,?_,ai h.r.o5 (fun p hp=>hh 5 p (by omega) hp),(hh 1 _ (by omega) rfl).trans h.r.md,by rw [ML];exact h.r.bk.grow ks.size,h.r.fll⟩⟩,?_⟩
 .have:=h.r.bk.lo 4 g m4;simp at e;omega
 .obtain ⟨bs,h1,h2⟩:=h.r.ofl j u hu;exact ⟨bs,h1,ai h2 (fun p hp=>hh (j+6) p (by omega) (show (s.r.fl[j]?).bind Value.ownBlock=some p by rw [hu];exact hp))⟩
 .have o:=h.r.o4;show World.ownsRow _ _ _ 1 s.r.vr (s.r.rg.set i b).length ((s.r.rg.set i b).map .bool);rw [Od,List.map_set,hg];rw [hg] at o;exact (o.stored i (.bool b)).1
 .refine ⟨ks.size,fun j p hp=>?_,fun p hp hn=>ks.block p hp (fun e=>hn 4 (by simp at e;rw [e];exact m4))⟩;rw [ML] at hp;exact .inl ⟨j,hp⟩
theorem Mac.yE {i:Nat} {b:Bool} (h:Mac w0 w mb sb db s) (hb:s.r.rg[i]? = some b):∃ g c,s.r.vr=.slice (some ⟨g,0,none⟩) s.r.rg.length c/\w.cell? ⟨g,i,none⟩=some (.bool b)/\(∀ j,w.frozen? ⟨g,j,none⟩=false):=by
 have hi:=(List.getElem?_eq_some_iff.1 hb).1;rcases h.r.o4.2 with ⟨_,q⟩ | ⟨g,cap,cur,q1,q2,q3,q4⟩
 .omega
 .have o:=h.r.o4;rw [q1] at o;refine ⟨g,cap,q1,?_,fun j=>?_⟩
  .rw [o.cellAt i (by omega),NY,hb];rfl
  .simp [World.frozen?,q3]
def yh (mb:Nat) (w:World) (ap o:Nat) (b:Bool):Prop:=∀ wx,Kp [] w wx->Calls Tryz.prog 158 #[.pointer (some ⟨mb,0,none⟩),.pointer (some ⟨ap,o,none⟩)] wx fun r w'=>r=.returned (.bool b)/\Kp [] wx w'
theorem Fs {g o n:Nat} {b:Bool} (h:Mac w0 w mb sb db s) (h0:w.cell? ⟨g,o,none⟩=some (.int .i64 0)) (h1:w.cell? ⟨g,o+1,none⟩=some (.int .i64 n)) (hb:((s.number:Int) == (n:Int))=b):yh mb w g o b:=by
 intro wx kx;have hl:=World.block_lt_of_cell? _ _ h0;have c8:=(h.aj kx).b.at_ 8 _ rfl;have d0:=(kx.cell (p:=⟨g,o,none⟩) hl (by simp)).trans h0;have d1:=(kx.cell (p:=⟨g,o+1,none⟩) hl (by simp)).trans h1;clear h0 h1;go_enter Tryz.func158,Tryz.ntmps158
 go_wp2_with fail;go_quiet (fail);go_wp2_with fail;go_ret;exact ⟨rfl,Kp.drewN _ _ _⟩
structure Two (w:World) (ca co ap i kd n2:Nat):Prop where
 c0:∃ cap,w.cell? ⟨ca,co,none⟩=some (.slice (some ⟨ap,0,none⟩) 2 cap)
 c1:w.cell? ⟨ca,co+1,none⟩=some (.int .i64 i)
 a4:w.cell? ⟨ap,4,none⟩=some (.int .i64 kd)
 a5:w.cell? ⟨ap,5,none⟩=some (.int .i64 n2)
theorem Two.aj {ca co ap i kd n2:Nat} (h:Two w ca co ap i kd n2) (k:Kp [] w w'):Two w' ca co ap i kd n2:=by
 obtain ⟨cap,h0⟩:=h.c0;exact ⟨⟨cap,(k.cell (World.block_lt_of_cell? _ _ h0) (by simp)).trans h0⟩,(k.cell (World.block_lt_of_cell? _ _ h.c1) (by simp)).trans h.c1,(k.cell (World.block_lt_of_cell? _ _ h.a4) (by simp)).trans h.a4,(k.cell (World.block_lt_of_cell? _ _ h.a5) (by simp)).trans h.a5⟩
def Pst.rgd (p:Pst) (i:Nat) (b:Bool):Pst:={ p with rg:=p.rg.set i b }
theorem rP {ca co ap i n2:Nat} (h:Mac w0 w mb sb db s) (hT:Two w ca co ap i 0 n2) (hg:s.r.rg[i]? = some true) :
  Calls Tryz.prog 159 #[.pointer (some ⟨mb,0,none⟩),.pointer (some ⟨ca,co,none⟩)] w fun r w'=>r=.returned (.bool true)/\aZ w0 mb sb db w s w' (s.p.rgd i (decide (s.number < n2))):=by
 obtain ⟨cap,c0⟩:=hT.c0;obtain ⟨g,cg,evr,hcg,_⟩:=h.yE hg;have hi:i < s.r.rg.length:=(List.getElem?_eq_some_iff.1 hg).1;obtain ⟨n,hnl⟩:∃ n,n=s.r.rg.length:=⟨_,rfl⟩;have c1:=hT.c1;have c11:=h.b.at_ 11 _ rfl;rw [evr,<-hnl] at c11;rw [<-hnl] at hi;have HM:=hid h;have HT:=hid hT;have HEV:=hid evr;have HG:=hid hg;clear h hT hcg evr hg hnl;go_enter Tryz.func159,Tryz.ntmps159
 go_wp2_with fail;go_quiet (fail);have d11:(w.drewN nq).cell? ⟨mb,11,none⟩=_:=c11;have d1:(w.drewN nq).cell? ⟨ca,co+1,none⟩=_:=c1;have ka:=Kp.drewN [] w nq;obtain ⟨wa,hwa⟩:∃ wa,wa=w.drewN nq:=⟨_,rfl⟩;rw [<-hwa] at d11 d1 ka ⊢;clear hwa c0 c1 c11;go_wp2_with fail;go_quiet (fail);have kb:=ka.trans (Kp.drewN [] wa nq);obtain ⟨wb,hwb⟩:∃ wb,wb=wa.drewN nq:=⟨_,rfl⟩;rw [<-hwb] at kb ⊢;clear hwb d11 d1 ka;have hTb:=HT.out.aj kb;have hMb:=HM.out.aj kb;have a4:=hTb.a4;obtain ⟨g',cg',evr',hcg,_⟩:=hMb.yE HG.out;obtain rfl:g'=g:=by rw [HEV.out] at evr';injection evr' with e _ _;injection e with e;injection e with e;exact e.symm
 clear hTb hMb evr';go_wp2_with fail;have kc:=kb;obtain ⟨wc,hwc⟩:∃ wc,wc=wb:=⟨_,rfl⟩;rw [<-hwc] at kc hcg;have kd:=kc.trans (Kp.drew [] wc);have hM:=HM.out.aj kd;have hTd:=HT.out.aj kd;obtain ⟨g2,cg2,evr2,hcg2,hfr⟩:=hM.yE HG.out;obtain rfl:g2=g':=by rw [HEV.out] at evr2;injection evr2 with e _ _;injection e with e;injection e with e;exact e.symm
 have FIN:=hid (hM.Fj (i:=i) evr2 (decide (s.number < n2)));have hS:(fun w':World=>w'.cell? ⟨mb,8,none⟩=some (.int .i64 s.number)/\w'.cell? ⟨ap,5,none⟩=some (.int .i64 n2)) wc.drew:=⟨hM.b.at_ 8 _ rfl,hTd.a5⟩;have fi:=hfr i;obtain ⟨wd,hwd⟩:∃ wd,wd=wc.drew:=⟨_,rfl⟩;rw [<-hwd] at kd hcg2 fi FIN hS;clear hM hTd evr2 hfr hcg a4;subst hwc;go_upto_region 5 with fail
 refine az (fun w':World=>w'.cell? ⟨mb,8,none⟩=some (.int .i64 s.number)/\w'.cell? ⟨ap,5,none⟩=some (.int .i64 n2)) 14 (by kernel_rfl) ?_;rw [<-hwd];clear hwd;have hdec:decide ((s.number:Int) < (n2:Int))=decide (s.number < n2):=by simp
 refine tk1 0 (v:=?_) rfl (by kernel_rfl) (fun _ _ _ h=>h) ⟨rfl,fun w hSw=>?_⟩ hS ?_;rotate_left;· ((try dsimp only at hSw);go_simp;(try with_reducible rfl))
 (try simp only [Nn,Nk,Nj,Act.put,Ni,Np,Nq])
 refine tk1 1 (v:=?_) rfl (by kernel_rfl) (fun _ _ _ h=>h) ⟨rfl,fun w hSw=>?_⟩ hS ?_;rotate_left;· ((try dsimp only at hSw);go_simp;(try with_reducible rfl))
 (try simp only [Nn,Nk,Nj,Act.put,Ni,Np,Nq])
 refine tk1 2 (v:=?_) rfl (by kernel_rfl) (fun _ _ _ h=>h) ⟨rfl,fun w hSw=>?_⟩ hS ?_;rotate_left;· ((try dsimp only at hSw);go_simp;(try with_reducible rfl))
 (try simp only [Nn,Nk,Nj,Act.put,Ni,Np,Nq])
 refine tk1 3 (v:=?_) rfl (by kernel_rfl) (fun _ _ _ h=>h) ⟨rfl,fun w hSw=>?_⟩ hS ?_;rotate_left;· ((try dsimp only at hSw);go_simp;(try with_reducible rfl))
 (try simp only [Nn,Nk,Nj,Act.put,Ni,Np,Nq])
 refine tk1 4 (v:=?_) rfl (by kernel_rfl) (fun _ _ _ h=>h) ⟨rfl,fun w hSw=>?_⟩ hS ?_;rotate_left;· ((try dsimp only at hSw);go_simp;(try with_reducible rfl))
 (try simp only [Nn,Nk,Nj,Act.put,Ni,Np,Nq])
 refine tk1 5 (v:=?_) rfl (by kernel_rfl) (fun _ _ _ h=>h) ⟨rfl,fun w hSw=>?_⟩ hS ?_;rotate_left;· ((try dsimp only at hSw);go_simp;(try with_reducible rfl))
 (try simp only [Nn,Nk,Nj,Act.put,Ni,Np,Nq])
 refine tk1 6 (v:=?_) rfl (by kernel_rfl) (fun _ _ _ h=>h) ⟨rfl,fun w hSw=>?_⟩ hS ?_;rotate_left;· ((try dsimp only at hSw);go_simp;(try with_reducible rfl))
 (try simp only [Nn,Nk,Nj,Act.put,Ni,Np,Nq])
 refine tk1 7 (v:=?_) rfl (by kernel_rfl) (fun _ _ _ h=>h) ⟨rfl,fun w hSw=>?_⟩ hS ?_;rotate_left;· ((try dsimp only at hSw);go_simp;(try with_reducible rfl))
 (try simp only [Nn,Nk,Nj,Act.put,Ni,Np,Nq])
 refine tk1 8 (v:=?_) rfl (by kernel_rfl) (fun _ _ _ h=>h) ⟨rfl,fun w hSw=>?_⟩ hS ?_;rotate_left;· ((try dsimp only at hSw);go_simp;(try with_reducible rfl))
 (try simp only [Nn,Nk,Nj,Act.put,Ni,Np,Nq])
 refine tk1 9 (v:=?_) rfl (by kernel_rfl) (fun _ _ _ h=>h) ⟨rfl,fun w hSw=>?_⟩ hS ?_;rotate_left;· ((try dsimp only at hSw);go_simp;(try with_reducible rfl))
 (try simp only [Nn,Nk,Nj,Act.put,Ni,Np,Nq])
 refine tk1 10 (v:=?_) rfl (by kernel_rfl) (fun _ _ _ h=>h) ⟨rfl,fun w hSw=>?_⟩ hS ?_;rotate_left;· ((try dsimp only at hSw);go_simp;(try with_reducible rfl))
 (try simp only [Nn,Nk,Nj,Act.put,Ni,Np,Nq])
 refine tk1 11 (v:=?_) rfl (by kernel_rfl) (fun _ _ _ h=>h) ⟨rfl,fun w hSw=>?_⟩ hS ?_;rotate_left;· ((try dsimp only at hSw);go_simp;(try with_reducible rfl))
 (try simp only [Nn,Nk,Nj,Act.put,Ni,Np,Nq])
 refine tk1 12 (v:=?_) rfl (by kernel_rfl) (fun _ _ _ h=>h) ⟨rfl,fun w hSw=>?_⟩ hS ?_;rotate_left;· ((try dsimp only at hSw);go_simp;(try with_reducible rfl))
 (try simp only [Nn,Nk,Nj,Act.put,Ni,Np,Nq])
 refine tk1 13 (v:=?_) rfl (by kernel_rfl) (fun _ _ _ h=>h) ⟨rfl,fun w hSw=>?_⟩ hS ?_;rotate_left;· ((try dsimp only at hSw);go_simp;(try with_reducible rfl))
 (try simp only [Nn,Nk,Nj,Act.put,Ni,Np,Nq])
 refine ag (i:=14) (by kernel_rfl) rfl (fun K hK=>?_);go_simp;refine hK.out _ _ (.inl rfl) ?_;clear hK K;refine ay (by kernel_rfl) ?_ _;go_wp2_with fail;go_ret;obtain ⟨m3,g3⟩:=FIN.out;exact ⟨rfl,_,rfl,m3,(Gr.de (r:=s.r) kd (fun _ e=>by cases e)).trans g3⟩
theorem jY {ca co ap i n2:Nat} (h:Mac w0 w mb sb db s) (hT:Two w ca co ap i 0 n2) (hg:s.r.rg[i]? = some false) (h1:yh mb w ap 0 true) :
  Calls Tryz.prog 159 #[.pointer (some ⟨mb,0,none⟩),.pointer (some ⟨ca,co,none⟩)] w fun r w'=>r=.returned (.bool true)/\aZ w0 mb sb db w s w' (s.p.rgd i (decide (s.number < n2))):=by
 obtain ⟨cap,c0⟩:=hT.c0;obtain ⟨g,cg,evr,hcg,_⟩:=h.yE hg;have hi:i < s.r.rg.length:=(List.getElem?_eq_some_iff.1 hg).1;obtain ⟨n,hnl⟩:∃ n,n=s.r.rg.length:=⟨_,rfl⟩;have c1:=hT.c1;have c11:=h.b.at_ 11 _ rfl;rw [evr,<-hnl] at c11;rw [<-hnl] at hi;have HM:=hid h;have HT:=hid hT;have HEV:=hid evr;have HG:=hid hg;clear h hT hcg evr hg hnl;go_enter Tryz.func159,Tryz.ntmps159
 go_wp2_with fail;go_quiet (fail);have d11:(w.drewN nq).cell? ⟨mb,11,none⟩=_:=c11;have d1:(w.drewN nq).cell? ⟨ca,co+1,none⟩=_:=c1;have ka:=Kp.drewN [] w nq;obtain ⟨wa,hwa⟩:∃ wa,wa=w.drewN nq:=⟨_,rfl⟩;rw [<-hwa] at d11 d1 ka ⊢;clear hwa c0 c1 c11;go_wp2_with fail;go_quiet (fail);have kb:=ka.trans (Kp.drewN [] wa nq);obtain ⟨wb,hwb⟩:∃ wb,wb=wa.drewN nq:=⟨_,rfl⟩;rw [<-hwb] at kb ⊢;clear hwb d11 d1 ka;have hTb:=HT.out.aj kb;have hMb:=HM.out.aj kb;have a4:=hTb.a4;obtain ⟨g',cg',evr',hcg,_⟩:=hMb.yE HG.out;obtain rfl:g'=g:=by rw [HEV.out] at evr';injection evr' with e _ _;injection e with e;injection e with e;exact e.symm
 clear hTb hMb evr';go_wp2_with fail;refine (h1 _ kb).mono ?_;rintro r wc ⟨rfl,kc⟩;have kc:=kb.trans kc;have kd:=kc.trans (Kp.drew [] wc);have hM:=HM.out.aj kd;have hTd:=HT.out.aj kd;obtain ⟨g2,cg2,evr2,hcg2,hfr⟩:=hM.yE HG.out;obtain rfl:g2=g':=by rw [HEV.out] at evr2;injection evr2 with e _ _;injection e with e;injection e with e;exact e.symm
 have FIN:=hid (hM.Fj (i:=i) evr2 (decide (s.number < n2)));have hS:(fun w':World=>w'.cell? ⟨mb,8,none⟩=some (.int .i64 s.number)/\w'.cell? ⟨ap,5,none⟩=some (.int .i64 n2)) wc.drew:=⟨hM.b.at_ 8 _ rfl,hTd.a5⟩;have fi:=hfr i;obtain ⟨wd,hwd⟩:∃ wd,wd=wc.drew:=⟨_,rfl⟩;rw [<-hwd] at kd hcg2 fi FIN hS;clear hM hTd evr2 hfr hcg a4;go_upto_region 5 with fail
 refine az (fun w':World=>w'.cell? ⟨mb,8,none⟩=some (.int .i64 s.number)/\w'.cell? ⟨ap,5,none⟩=some (.int .i64 n2)) 14 (by kernel_rfl) ?_;rw [<-hwd];clear hwd;have hdec:decide ((s.number:Int) < (n2:Int))=decide (s.number < n2):=by simp
 refine tk1 0 (v:=?_) rfl (by kernel_rfl) (fun _ _ _ h=>h) ⟨rfl,fun w hSw=>?_⟩ hS ?_;rotate_left;· ((try dsimp only at hSw);go_simp;(try with_reducible rfl))
 (try simp only [Nn,Nk,Nj,Act.put,Ni,Np,Nq])
 refine tk1 1 (v:=?_) rfl (by kernel_rfl) (fun _ _ _ h=>h) ⟨rfl,fun w hSw=>?_⟩ hS ?_;rotate_left;· ((try dsimp only at hSw);go_simp;(try with_reducible rfl))
 (try simp only [Nn,Nk,Nj,Act.put,Ni,Np,Nq])
 refine tk1 2 (v:=?_) rfl (by kernel_rfl) (fun _ _ _ h=>h) ⟨rfl,fun w hSw=>?_⟩ hS ?_;rotate_left;· ((try dsimp only at hSw);go_simp;(try with_reducible rfl))
 (try simp only [Nn,Nk,Nj,Act.put,Ni,Np,Nq])
 refine tk1 3 (v:=?_) rfl (by kernel_rfl) (fun _ _ _ h=>h) ⟨rfl,fun w hSw=>?_⟩ hS ?_;rotate_left;· ((try dsimp only at hSw);go_simp;(try with_reducible rfl))
 (try simp only [Nn,Nk,Nj,Act.put,Ni,Np,Nq])
 refine tk1 4 (v:=?_) rfl (by kernel_rfl) (fun _ _ _ h=>h) ⟨rfl,fun w hSw=>?_⟩ hS ?_;rotate_left;· ((try dsimp only at hSw);go_simp;(try with_reducible rfl))
 (try simp only [Nn,Nk,Nj,Act.put,Ni,Np,Nq])
 refine tk1 5 (v:=?_) rfl (by kernel_rfl) (fun _ _ _ h=>h) ⟨rfl,fun w hSw=>?_⟩ hS ?_;rotate_left;· ((try dsimp only at hSw);go_simp;(try with_reducible rfl))
 (try simp only [Nn,Nk,Nj,Act.put,Ni,Np,Nq])
 refine tk1 6 (v:=?_) rfl (by kernel_rfl) (fun _ _ _ h=>h) ⟨rfl,fun w hSw=>?_⟩ hS ?_;rotate_left;· ((try dsimp only at hSw);go_simp;(try with_reducible rfl))
 (try simp only [Nn,Nk,Nj,Act.put,Ni,Np,Nq])
 refine tk1 7 (v:=?_) rfl (by kernel_rfl) (fun _ _ _ h=>h) ⟨rfl,fun w hSw=>?_⟩ hS ?_;rotate_left;· ((try dsimp only at hSw);go_simp;(try with_reducible rfl))
 (try simp only [Nn,Nk,Nj,Act.put,Ni,Np,Nq])
 refine tk1 8 (v:=?_) rfl (by kernel_rfl) (fun _ _ _ h=>h) ⟨rfl,fun w hSw=>?_⟩ hS ?_;rotate_left;· ((try dsimp only at hSw);go_simp;(try with_reducible rfl))
 (try simp only [Nn,Nk,Nj,Act.put,Ni,Np,Nq])
 refine tk1 9 (v:=?_) rfl (by kernel_rfl) (fun _ _ _ h=>h) ⟨rfl,fun w hSw=>?_⟩ hS ?_;rotate_left;· ((try dsimp only at hSw);go_simp;(try with_reducible rfl))
 (try simp only [Nn,Nk,Nj,Act.put,Ni,Np,Nq])
 refine tk1 10 (v:=?_) rfl (by kernel_rfl) (fun _ _ _ h=>h) ⟨rfl,fun w hSw=>?_⟩ hS ?_;rotate_left;· ((try dsimp only at hSw);go_simp;(try with_reducible rfl))
 (try simp only [Nn,Nk,Nj,Act.put,Ni,Np,Nq])
 refine tk1 11 (v:=?_) rfl (by kernel_rfl) (fun _ _ _ h=>h) ⟨rfl,fun w hSw=>?_⟩ hS ?_;rotate_left;· ((try dsimp only at hSw);go_simp;(try with_reducible rfl))
 (try simp only [Nn,Nk,Nj,Act.put,Ni,Np,Nq])
 refine tk1 12 (v:=?_) rfl (by kernel_rfl) (fun _ _ _ h=>h) ⟨rfl,fun w hSw=>?_⟩ hS ?_;rotate_left;· ((try dsimp only at hSw);go_simp;(try with_reducible rfl))
 (try simp only [Nn,Nk,Nj,Act.put,Ni,Np,Nq])
 refine tk1 13 (v:=?_) rfl (by kernel_rfl) (fun _ _ _ h=>h) ⟨rfl,fun w hSw=>?_⟩ hS ?_;rotate_left;· ((try dsimp only at hSw);go_simp;(try with_reducible rfl))
 (try simp only [Nn,Nk,Nj,Act.put,Ni,Np,Nq])
 refine ag (i:=14) (by kernel_rfl) rfl (fun K hK=>?_);go_simp;refine hK.out _ _ (.inl rfl) ?_;clear hK K;refine ay (by kernel_rfl) ?_ _;go_wp2_with fail;go_ret;obtain ⟨m3,g3⟩:=FIN.out;exact ⟨rfl,_,rfl,m3,(Gr.de (r:=s.r) kd (fun _ e=>by cases e)).trans g3⟩
theorem pH {ca co ap i n2:Nat} (h:Mac w0 w mb sb db s) (hT:Two w ca co ap i 0 n2) (hg:s.r.rg[i]? = some false) (h1:yh mb w ap 0 false) :
  Calls Tryz.prog 159 #[.pointer (some ⟨mb,0,none⟩),.pointer (some ⟨ca,co,none⟩)] w fun r w'=>r=.returned (.bool false)/\aZ w0 mb sb db w s w' (s.p.rgd i false):=by
 obtain ⟨cap,c0⟩:=hT.c0;obtain ⟨g,cg,evr,hcg,_⟩:=h.yE hg;have hi:i < s.r.rg.length:=(List.getElem?_eq_some_iff.1 hg).1;obtain ⟨n,hnl⟩:∃ n,n=s.r.rg.length:=⟨_,rfl⟩;have c1:=hT.c1;have c11:=h.b.at_ 11 _ rfl;rw [evr,<-hnl] at c11;rw [<-hnl] at hi;have HM:=hid h;have HT:=hid hT;have HEV:=hid evr;have HG:=hid hg;clear h hT hcg evr hg hnl;go_enter Tryz.func159,Tryz.ntmps159
 go_wp2_with fail;go_quiet (fail);have d11:(w.drewN nq).cell? ⟨mb,11,none⟩=_:=c11;have d1:(w.drewN nq).cell? ⟨ca,co+1,none⟩=_:=c1;have ka:=Kp.drewN [] w nq;obtain ⟨wa,hwa⟩:∃ wa,wa=w.drewN nq:=⟨_,rfl⟩;rw [<-hwa] at d11 d1 ka ⊢;clear hwa c0 c1 c11;go_wp2_with fail;go_quiet (fail);have kb:=ka.trans (Kp.drewN [] wa nq);obtain ⟨wb,hwb⟩:∃ wb,wb=wa.drewN nq:=⟨_,rfl⟩;rw [<-hwb] at kb ⊢;clear hwb d11 d1 ka;have hTb:=HT.out.aj kb;have hMb:=HM.out.aj kb;have a4:=hTb.a4;obtain ⟨g',cg',evr',hcg,_⟩:=hMb.yE HG.out;obtain rfl:g'=g:=by rw [HEV.out] at evr';injection evr' with e _ _;injection e with e;injection e with e;exact e.symm
 clear hTb hMb evr';go_wp2_with fail;refine (h1 _ kb).mono ?_;rintro r wc ⟨rfl,kc⟩;have kc:=kb.trans kc;have kd:=kc.trans (Kp.drew [] wc);have hM:=HM.out.aj kd;have hTd:=HT.out.aj kd;obtain ⟨g2,cg2,evr2,hcg2,hfr⟩:=hM.yE HG.out;obtain rfl:g2=g':=by rw [HEV.out] at evr2;injection evr2 with e _ _;injection e with e;injection e with e;exact e.symm
 have FIN:=hid (hM.Fj (i:=i) evr2 false);have hS:(fun w':World=>w'.cell? ⟨mb,8,none⟩=some (.int .i64 s.number)/\w'.cell? ⟨ap,5,none⟩=some (.int .i64 n2)) wc.drew:=⟨hM.b.at_ 8 _ rfl,hTd.a5⟩;have fi:=hfr i;obtain ⟨wd,hwd⟩:∃ wd,wd=wc.drew:=⟨_,rfl⟩;rw [<-hwd] at kd hcg2 fi FIN hS;clear hM hTd evr2 hfr hcg a4;go_upto_region 5 with fail
 refine az (fun w':World=>w'.cell? ⟨mb,8,none⟩=some (.int .i64 s.number)/\w'.cell? ⟨ap,5,none⟩=some (.int .i64 n2)) 14 (by kernel_rfl) ?_;rw [<-hwd];clear hwd;refine tk1 0 (v:=?_) rfl (by kernel_rfl) (fun _ _ _ h=>h) ⟨rfl,fun w hSw=>?_⟩ hS ?_;rotate_left;· ((try dsimp only at hSw);go_simp;(try with_reducible rfl))
 (try simp only [Nn,Nk,Nj,Act.put,Ni,Np,Nq])
 refine tk1 1 (v:=?_) rfl (by kernel_rfl) (fun _ _ _ h=>h) ⟨rfl,fun w hSw=>?_⟩ hS ?_;rotate_left;· ((try dsimp only at hSw);go_simp;(try with_reducible rfl))
 (try simp only [Nn,Nk,Nj,Act.put,Ni,Np,Nq])
 refine tk1 2 (v:=?_) rfl (by kernel_rfl) (fun _ _ _ h=>h) ⟨rfl,fun w hSw=>?_⟩ hS ?_;rotate_left;· ((try dsimp only at hSw);go_simp;(try with_reducible rfl))
 (try simp only [Nn,Nk,Nj,Act.put,Ni,Np,Nq])
 refine aR (i:=3) (v:=undef) rfl (by kernel_rfl) (by kernel_rfl) (by kernel_rfl) (by kernel_rfl) (fun _ _ _ h=>h) (Or.inr ⟨by rfl,rfl⟩) hS ?_;simp only [Nn,Nk,Nj,Act.put,Ni,Np,Nq];refine aR (i:=4) (v:=undef) rfl (by kernel_rfl) (by kernel_rfl) (by kernel_rfl) (by kernel_rfl) (fun _ _ _ h=>h) (Or.inr ⟨by rfl,rfl⟩) hS ?_;simp only [Nn,Nk,Nj,Act.put,Ni,Np,Nq];refine aR (i:=5) (v:=undef) rfl (by kernel_rfl) (by kernel_rfl) (by kernel_rfl) (by kernel_rfl) (fun _ _ _ h=>h) (Or.inr ⟨by rfl,rfl⟩) hS ?_;simp only [Nn,Nk,Nj,Act.put,Ni,Np,Nq];refine aR (i:=6) (v:=undef) rfl (by kernel_rfl) (by kernel_rfl) (by kernel_rfl) (by kernel_rfl) (fun _ _ _ h=>h) (Or.inr ⟨by rfl,rfl⟩) hS ?_;simp only [Nn,Nk,Nj,Act.put,Ni,Np,Nq];refine aR (i:=7) (v:=undef) rfl (by kernel_rfl) (by kernel_rfl) (by kernel_rfl) (by kernel_rfl) (fun _ _ _ h=>h) (Or.inr ⟨by rfl,rfl⟩) hS ?_;simp only [Nn,Nk,Nj,Act.put,Ni,Np,Nq];refine aR (i:=8) (v:=undef) rfl (by kernel_rfl) (by kernel_rfl) (by kernel_rfl) (by kernel_rfl) (fun _ _ _ h=>h) (Or.inr ⟨by rfl,rfl⟩) hS ?_
 simp only [Nn,Nk,Nj,Act.put,Ni,Np,Nq];refine aR (i:=9) (v:=undef) rfl (by kernel_rfl) (by kernel_rfl) (by kernel_rfl) (by kernel_rfl) (fun _ _ _ h=>h) (Or.inr ⟨by rfl,rfl⟩) hS ?_;simp only [Nn,Nk,Nj,Act.put,Ni,Np,Nq];refine aR (i:=10) (v:=undef) rfl (by kernel_rfl) (by kernel_rfl) (by kernel_rfl) (by kernel_rfl) (fun _ _ _ h=>h) (Or.inr ⟨by rfl,rfl⟩) hS ?_;simp only [Nn,Nk,Nj,Act.put,Ni,Np,Nq];refine aR (i:=11) (v:=undef) rfl (by kernel_rfl) (by kernel_rfl) (by kernel_rfl) (by kernel_rfl) (fun _ _ _ h=>h) (Or.inr ⟨by rfl,rfl⟩) hS ?_;simp only [Nn,Nk,Nj,Act.put,Ni,Np,Nq];refine tk1 12 (v:=?_) rfl (by kernel_rfl) (fun _ _ _ h=>h) ⟨rfl,fun w hSw=>?_⟩ hS ?_;rotate_left;· ((try dsimp only at hSw);go_simp;(try with_reducible rfl))
 (try simp only [Nn,Nk,Nj,Act.put,Ni,Np,Nq])
 refine tk1 13 (v:=?_) rfl (by kernel_rfl) (fun _ _ _ h=>h) ⟨rfl,fun w hSw=>?_⟩ hS ?_;rotate_left;· ((try dsimp only at hSw);go_simp;(try with_reducible rfl))
 (try simp only [Nn,Nk,Nj,Act.put,Ni,Np,Nq])
 refine ag (i:=14) (by kernel_rfl) rfl (fun K hK=>?_);go_simp;refine hK.out _ _ (.inl rfl) ?_;clear hK K;refine ay (by kernel_rfl) ?_ _;go_wp2_with fail;go_ret;obtain ⟨m3,g3⟩:=FIN.out;exact ⟨rfl,_,rfl,m3,(Gr.de (r:=s.r) kd (fun _ e=>by cases e)).trans g3⟩
theorem uW {ca co ap i kd n2:Nat} {b:Bool} (h:Mac w0 w mb sb db s) (hT:Two w ca co ap i kd n2) (hkd:kd≠0) (hg:s.r.rg[i]? = some true) (h1:yh mb w ap 4 b) :
  Calls Tryz.prog 159 #[.pointer (some ⟨mb,0,none⟩),.pointer (some ⟨ca,co,none⟩)] w fun r w'=>r=.returned (.bool true)/\aZ w0 mb sb db w s w' (s.p.rgd i (!b)):=by
 obtain ⟨cap,c0⟩:=hT.c0;obtain ⟨g,cg,evr,hcg,_⟩:=h.yE hg;have hi:i < s.r.rg.length:=(List.getElem?_eq_some_iff.1 hg).1;obtain ⟨n,hnl⟩:∃ n,n=s.r.rg.length:=⟨_,rfl⟩;have c1:=hT.c1;have c11:=h.b.at_ 11 _ rfl;rw [evr,<-hnl] at c11;rw [<-hnl] at hi;have HM:=hid h;have HT:=hid hT;have HEV:=hid evr;have HG:=hid hg;clear h hT hcg evr hg hnl;go_enter Tryz.func159,Tryz.ntmps159
 go_wp2_with fail;go_quiet (fail);have d11:(w.drewN nq).cell? ⟨mb,11,none⟩=_:=c11;have d1:(w.drewN nq).cell? ⟨ca,co+1,none⟩=_:=c1;have ka:=Kp.drewN [] w nq;obtain ⟨wa,hwa⟩:∃ wa,wa=w.drewN nq:=⟨_,rfl⟩;rw [<-hwa] at d11 d1 ka ⊢;clear hwa c0 c1 c11;go_wp2_with fail;go_quiet (fail);have kb:=ka.trans (Kp.drewN [] wa nq);obtain ⟨wb,hwb⟩:∃ wb,wb=wa.drewN nq:=⟨_,rfl⟩;rw [<-hwb] at kb ⊢;clear hwb d11 d1 ka;have hTb:=HT.out.aj kb;have hMb:=HM.out.aj kb;have a4:=hTb.a4;obtain ⟨g',cg',evr',hcg,_⟩:=hMb.yE HG.out;obtain rfl:g'=g:=by rw [HEV.out] at evr';injection evr' with e _ _;injection e with e;injection e with e;exact e.symm
 clear hTb hMb evr';have hk0:((kd:Int) == 0)=false:=by rw [Nz];omega
 go_wp2_with fail;refine (h1 _ kb).mono ?_;rintro r wc ⟨rfl,kc⟩;have kd:=kb.trans kc;have hM:=HM.out.aj kd;obtain ⟨g2,cg2,evr2,hcg2,hfr⟩:=hM.yE HG.out;obtain rfl:g2=g':=by rw [HEV.out] at evr2;injection evr2 with e _ _;injection e with e;injection e with e;exact e.symm
 have FIN:=hid (hM.Fj (i:=i) evr2 (!b));have fi:=hfr i;clear hM evr2 hfr hcg a4 HM HT
 cases b
 all_goals
  go_wp2_with fail;go_ret;obtain ⟨m3,g3⟩:=FIN.out;exact ⟨rfl,_,rfl,m3,(Gr.de (r:=s.r) kd (fun _ e=>by cases e)).trans g3⟩
theorem ql {ca co ap i kd n2:Nat} {b:Bool} (h:Mac w0 w mb sb db s) (hT:Two w ca co ap i kd n2) (hkd:kd≠0) (hg:s.r.rg[i]? = some false) (h1:yh mb w ap 0 b) :
  Calls Tryz.prog 159 #[.pointer (some ⟨mb,0,none⟩),.pointer (some ⟨ca,co,none⟩)] w fun r w'=>r=.returned (.bool b)/\aZ w0 mb sb db w s w' (s.p.rgd i b):=by
 obtain ⟨cap,c0⟩:=hT.c0;obtain ⟨g,cg,evr,hcg,_⟩:=h.yE hg;have hi:i < s.r.rg.length:=(List.getElem?_eq_some_iff.1 hg).1;obtain ⟨n,hnl⟩:∃ n,n=s.r.rg.length:=⟨_,rfl⟩;have c1:=hT.c1;have c11:=h.b.at_ 11 _ rfl;rw [evr,<-hnl] at c11;rw [<-hnl] at hi;have HM:=hid h;have HT:=hid hT;have HEV:=hid evr;have HG:=hid hg;clear h hT hcg evr hg hnl;go_enter Tryz.func159,Tryz.ntmps159
 go_wp2_with fail;go_quiet (fail);have d11:(w.drewN nq).cell? ⟨mb,11,none⟩=_:=c11;have d1:(w.drewN nq).cell? ⟨ca,co+1,none⟩=_:=c1;have ka:=Kp.drewN [] w nq;obtain ⟨wa,hwa⟩:∃ wa,wa=w.drewN nq:=⟨_,rfl⟩;rw [<-hwa] at d11 d1 ka ⊢;clear hwa c0 c1 c11;go_wp2_with fail;go_quiet (fail);have kb:=ka.trans (Kp.drewN [] wa nq);obtain ⟨wb,hwb⟩:∃ wb,wb=wa.drewN nq:=⟨_,rfl⟩;rw [<-hwb] at kb ⊢;clear hwb d11 d1 ka;have hTb:=HT.out.aj kb;have hMb:=HM.out.aj kb;have a4:=hTb.a4;obtain ⟨g',cg',evr',hcg,_⟩:=hMb.yE HG.out;obtain rfl:g'=g:=by rw [HEV.out] at evr';injection evr' with e _ _;injection e with e;injection e with e;exact e.symm
 clear hTb hMb evr';have hk0:((kd:Int) == 0)=false:=by rw [Nz];omega
 go_wp2_with fail;refine (h1 _ kb).mono ?_;rintro r wc ⟨rfl,kc⟩;have kd:=kb.trans kc;have hM:=HM.out.aj kd;obtain ⟨g2,cg2,evr2,hcg2,hfr⟩:=hM.yE HG.out;obtain rfl:g2=g':=by rw [HEV.out] at evr2;injection evr2 with e _ _;injection e with e;injection e with e;exact e.symm
 have FIN:=hid (hM.Fj (i:=i) evr2 b);have fi:=hfr i;clear hM evr2 hfr hcg a4 HM HT
 cases b
 all_goals
  go_wp2_with fail;go_ret;obtain ⟨m3,g3⟩:=FIN.out;exact ⟨rfl,_,rfl,m3,(Gr.de (r:=s.r) kd (fun _ e=>by cases e)).trans g3⟩
end
