import Derived.Test.YtiahkfoojjpaaaaGreatDoorS44
import Derived.Test.YtiahkfoojjpaaaaGreatDoorS40
set_option maxRecDepth 100000
set_option maxHeartbeats 16000000
set_option linter.all false
namespace Go.Proofs.YtiahkfoojjpaaaaGreatDoor
open Go.RowKit
structure Prg(w0:World)(lo hi sb:Nat)(σ:Sst)(S:fN):Prop where
 sc:Scr lo hi w0 sb 0 σ
 pg:Qk σ S
 ok:Ak S
 pw:Pow w0
structure lO(w0:World)(σ:Sst)(S:fN)(ca co:Nat)(cv:List Value)(c:aH):Prop where
 at_:Cu w0 ca co cv
 is:rq σ.fs cv c
 ok:ig S.names.length S.ranges c
 gl:c.goal<=S.aD.length
 fx:∀f∈σ.fs,w0.heap[f.1]? = some f.2
structure SOk(S:fN)(u:Ust):Prop where
 ok:UOk u
 fb:u.fb.length=S.names.length
 rg:u.rg.length=S.ranges
 pc:u.pc<=S.aD.length
 st:u.steps<=2000
section
variable {w0 w w' w2:World}{mb sb db lo hi:Nat}{s s':Mst}{u:Ust}{σ:Sst}{S:fN}{ca co:Nat}{cv:List Value}{c:aH}{q:Ptn}
theorem Prg.cmd(h:Prg w0 lo hi sb σ S){i:Nat}(hc:S.aD[i]? = some c):∃g cap cv,σ.vc=.slice (some ⟨g,0,none⟩) σ.cs.length cap/\σ.cs[i]? = some cv/\lO w0 σ S g (i*23) cv c:=by
 have hi:=(List.getElem?_eq_some_iff.1 hc).1;obtain⟨cv,hcv⟩:∃cv,σ.cs[i]? = some cv:=⟨_,QA (by rw[h.pg.len];exact hi)⟩;obtain⟨g,cap,hv,hcell⟩:=h.sc.cmd hcv;have hm:c∈S.aD:=QM hc;refine⟨g,cap,cv,hv,hcv,⟨⟨Qx (h.sc.h4 g (by rw[hv];rfl)) h.sc.Ob,hcell⟩,h.pg.cs i cv c hcv hc,h.ok.ok c hm,h.ok.gl c hm,fun f hf=>(h.sc.fx f hf).1⟩⟩
theorem PI{pb:Nat}(hq:xT q.G q.x)(h:q.Q pb w):∃g cc,Cd w pb g cc q.n q.D q.cd/\w.cell? ⟨pb,1,none⟩=some (.int .i64 (q.bg:Nat))/\w.cell? ⟨pb,2,none⟩=some (.int .i64 q.G):=by
 obtain⟨g,cc,hc⟩:=KT (hq.ok.sm noB) h;exact⟨g,cc,hc,h.c1,h.c2⟩
theorem find_t{pb:Nat}{t:List UInt8}(hq:xT q.G q.x)(h:q.Q pb w)(ht:t.length<=5000):Calls Tryz.prog 32 #[.pointer (some ⟨pb,0,none⟩),.string (ba t)] w fun e w'=>Kp [] w w'/\((q.hit t=false/\e=.returned (.slice none 0 0))\/(q.hit t=true/\∃b cc,e=.returned (.slice (some ⟨b,0,none⟩) (2+2*q.G) cc))):=by
 obtain⟨g,cc,hcd,h1,h2⟩:=PI hq h;refine(DT hcd h1 h2 (zO hq).bg hq.dd hq.g (by rw[ay];exact ht)).mono ?_;rintro e w1 ⟨k1,s',hruns,hres⟩;have hs:Srch q (ba t) 0 mc0 s':=hruns;have hh:q.hit t=s'.fd:=by unfold Ptn.hit;rw[pM hs]
 refine⟨k1,?_⟩;rcases hres with⟨hfd,rfl⟩|⟨hfd,b,c2,rfl,_⟩
 .exact .inl ⟨hh.trans hfd,rfl⟩
 .exact .inr ⟨hh.trans hfd,b,c2,rfl⟩
theorem Iw{g o pb:Nat}(h:Mac w0 w mb sb db s)(hp:s.p=u.p)(hu:UOk u)(h0:w.cell? ⟨g,o,none⟩=some (.int .i64 2))(h2:w.cell? ⟨g,o+2,none⟩=some (.pointer (some ⟨pb,0,none⟩)))(hq:xT q.G q.x)(hQ:∀wx,Kp [] w wx->q.Q pb wx):Al mb w g o (q.hit u.space):=by
 intro wx kx;have hl:=World.block_lt_of_cell? _ _ h0;have c9:=(h.aj kx).b.at_ 9 _ rfl;have hs:s.space=ba u.space:=congrArg Pst.space hp;rw[hs] at c9;have d0:=(kx.cell (p:=⟨g,o,none⟩) hl (by simp)).trans h0;have d2:=(kx.cell (p:=⟨g,o+2,none⟩) hl (by simp)).trans h2;have l9:=hu.sp;obtain⟨L,hL⟩:∃L,L=u.space:=⟨_,rfl⟩;rw[<-hL] at c9 l9 ⊢;have F2:=hid (find_t (w:=wx.drew) (t:=L) hq (hQ _ (kx.trans (Kp.drew [] wx))) (by omega));clear h0 h2 hQ hL hs hp;go_enter Tryz.func158,Tryz.ntmps158
 go_wp2_with fail
 cases hb:q.hit L with
 | false=>
  have F3:Hid (Calls Tryz.prog 32 #[.pointer (some ⟨pb,0,none⟩),.string (ba L)] wx.drew fun e w'=>e=.returned (.slice none 0 0)/\Kp [] wx.drew w'):=hid (F2.out.mono fun e w' ⟨k,h⟩=>by
   rcases h with⟨_,he⟩|⟨hc,_⟩
   .exact⟨he,k⟩
   .rw[hb] at hc;cases hc)
  go_region_with (go_at_call 32;refine F3.out.mono ?_;rintro r w1 ⟨rfl,k1⟩)
  all_goals
   go_wp2_with fail;go_ret;exact⟨by rw[hb];rfl,(Kp.drew [] wx).trans k1⟩
 | true=>
  have F3:Hid (Calls Tryz.prog 32 #[.pointer (some ⟨pb,0,none⟩),.string (ba L)] wx.drew fun e w'=>(∃b n c,e=.returned (.slice (some ⟨b,0,none⟩) n c))/\Kp [] wx.drew w'):=hid (F2.out.mono fun e w' ⟨k,h⟩=>by
   rcases h with⟨hc,_⟩|⟨_,b,c,he⟩
   .rw[hb] at hc;cases hc
   .exact⟨⟨b,_,c,he⟩,k⟩)
  go_region_with (go_at_call 32;refine F3.out.mono ?_;rintro r w1 ⟨⟨b,n,c,rfl⟩,k1⟩)
  all_goals
   go_wp2_with fail;go_ret;exact⟨by rw[hb];rfl,(Kp.drew [] wx).trans k1⟩
theorem Iv{g o:Nat}{a:eE}{va:List Value}{fs:List (Nat×Obj)}(h:Mac w0 w mb sb db s)(hp:s.p=u.p)(hu:UOk u)(hv:Qp fs a.A va)(hc:∀(j:Nat) (v:Value),va[j]? = some v->w.cell? ⟨g,o+j,none⟩=some v)(hfx:∀f∈fs,w.heap[f.1]? = some f.2)(hq:∀p,a=.pat p->xT p.G p.x):Al mb w g o (u.says a):=by
 cases a with
 | num n=>
  have hv:va=jq 0 n:=hv;subst hv;have e:s.number=u.number:=congrArg Pst.number hp;refine Ix h (hc 0 _ rfl) (hc 1 _ rfl) ?_;rw[e];show _=(u.number==n);by_cases hn:u.number=n
  .rw[hn];simp
  .rw[beq_eq_false_iff_ne.2 hn,Qz];omega
 | last=>
  have hv:va=jq 1 0:=hv;subst hv;intro wx kx;have hl:=World.block_lt_of_cell? _ _ (hc 0 _ rfl);have d0:wx.cell? ⟨g,o,none⟩=some (.int .i64 1):=(kx.cell (p:=⟨g,o,none⟩) hl (by simp)).trans (hc 0 _ rfl);have NV:=hid (Jw (h.aj kx) (Bf hp));show Calls _ _ _ _ fun r w'=>r=.returned (.bool u.none_)/\_;go_enter Tryz.func158,Tryz.ntmps158
  go_wp2_with fail;refine NV.out.mono ?_;rintro r w1 ⟨rfl,rfl⟩;go_wp2_with fail;go_ret;exact⟨rfl,Kp.refl _ _⟩
 | pat p=>
  obtain⟨pb,g2,o1,o2,hv,h1,h2,hB⟩:=hv;subst hv;exact Iw h hp hu (hc 0 _ rfl) (hc 2 _ rfl) (hq p rfl) (fun wx kx=>hB wx ((kx.block pb (aN (hfx _ h1)) (by simp)).trans (hfx _ h1)) ((kx.block g2 (aN (hfx _ h2)) (by simp)).trans (hfx _ h2)))
theorem Cm{g o cc p:Nat}{b:Bool}(h0:w.cell? ⟨g,o,none⟩=some (.slice (some ⟨p,0,none⟩) 1 cc))(H:Al mb w p 0 b):Calls Tryz.prog 129 #[.pointer (some ⟨mb,0,none⟩),.pointer (some ⟨g,o,none⟩)] w fun r w'=>r=.returned (.bool b)/\Kp [] w w':=by
 have HH:=hid (H w (Kp.refl _ _));clear H;go_enter Tryz.func129,Tryz.ntmps129
 go_wp2_with fail;refine HH.out.mono ?_;rintro r w1 ⟨rfl,g1⟩;go_wp2_with fail;go_ret;exact⟨rfl,g1⟩
theorem Cl{g o cc:Nat}{A:Option Addr}{b:Bool}{R:World->Prop}(h0:w.cell? ⟨g,o,none⟩=some (.slice A 2 cc))(H:Calls Tryz.prog 159 #[.pointer (some ⟨mb,0,none⟩),.pointer (some ⟨g,o,none⟩)] w fun r w'=>r=.returned (.bool b)/\R w'):Calls Tryz.prog 129 #[.pointer (some ⟨mb,0,none⟩),.pointer (some ⟨g,o,none⟩)] w fun r w'=>r=.returned (.bool b)/\R w':=by
 have HH:=hid H;clear H;go_enter Tryz.func129,Tryz.ntmps129
 go_wp2_with fail;refine HH.out.mono ?_;rintro r w1 ⟨rfl,g1⟩;go_wp2_with fail;go_ret;exact⟨rfl,g1⟩
theorem Ck(h:Mac w0 w mb sb db s)(hc:lO w0 σ S ca co cv c)(hp:s.p=u.p)(hu:SOk S u):Calls Tryz.prog 129 #[.pointer (some ⟨mb,0,none⟩),.pointer (some ⟨ca,co,none⟩)] w fun r w'=>r=.returned (.bool (u.addressed c).1)/\di w0 mb sb db w s w' (u.addressed c).2.p:=by
 obtain⟨v0,h0,hA⟩:=hc.is.c0;have c0:w.cell? ⟨ca,co,none⟩=some v0:=hc.at_.now h h0;have hfx:∀f∈σ.fs,w.heap[f.1]? = some f.2:=fun f hf=>(h.r.kp.block f.1 (aN (hc.fx f hf)) (by simp)).trans (hc.fx f hf);have hpts:=hc.ok.pts;unfold Ust.addressed;have hlen:=hc.ok.adr
 match hadr:c.fw,hA with
 | [],hA=>
  rcases hA with⟨_,rfl⟩|⟨p,cc,cells,rfl,_,_⟩
  .refine(jw h c0).mono ?_;rintro r w1 ⟨rfl,g⟩;exact⟨rfl,g.oE hp⟩
  .refine(jw h c0).mono ?_;rintro r w1 ⟨rfl,g⟩;exact⟨rfl,g.oE hp⟩
 | [a],hA=>
  rcases hA with⟨q,_⟩|⟨p,cc,cells,rfl,hm,hcs⟩
  .cases q
  .obtain⟨va,ha,hce⟩:=hcs 0 _ rfl;have hh:=hfx _ hm
   have SK:=Iv (g:=p) (o:=0) h hp hu.ok ha (fun j v hv=>by
    have:=hce j v hv;simp only[World.cell?,hh]
    simpa using this) hfx (fun q e=>hpts q (by rw[hadr,e];simp))
   refine(Cm c0 SK).mono ?_;rintro r w1 ⟨rfl,k1⟩;exact⟨rfl,((di.refl h).aj k1).oE hp⟩
 | [a,b],hA=>
  rcases hA with⟨q,_⟩|⟨p,cc,cells,rfl,hm,hcs⟩
  .cases q
  .obtain⟨va,ha,hca⟩:=hcs 0 _ rfl;obtain⟨vb,hb,hcb⟩:=hcs 1 _ rfl;have hh:=hfx _ hm
   have SA:=Iv (g:=p) (o:=0) h hp hu.ok ha (fun j v hv=>by
    have:=hca j v hv;simp only[World.cell?,hh]
    simpa using this) hfx (fun q e=>hpts q (by rw[hadr,e];simp))
   have cb:∀(j:Nat) (v:Value),vb[j]? = some v->w.cell? ⟨p,4+j,none⟩=some v:=fun j v hv=>by
    have:=hcb j v hv;simp only[World.cell?,hh];simpa using this
   have SB:=Iv (g:=p) (o:=4) h hp hu.ok hb cb hfx (fun q e=>hpts q (by rw[hadr,e];simp));have hrg:c.range<u.rg.length:=by rw[hu.rg];exact hc.ok.rng (by rw[hadr];rfl)
   obtain⟨x,hx⟩:∃x,u.rg[c.range]? = some x:=⟨_,QA hrg⟩;have hxd:u.rg.getD c.range false=x:=by rw[List.getD_eq_getElem?_getD,hx];rfl
   have hsx:s.r.rg[c.range]? = some x:=by rw[show s.r.rg=u.rg from congrArg Pst.rg hp];exact hx
   have c1:w.cell? ⟨ca,co+1,none⟩=some (.int .i64 c.range):=hc.at_.now h hc.is.c1;have en:s.number=u.number:=congrArg Pst.number hp;show Calls _ _ _ _ fun r w'=>r=.returned (.bool (u.fL c.range a b).1)/\di w0 mb sb db w s w' (u.fL c.range a b).2.p;have fin:∀(y z:Bool),(u.fL c.range a b)=(y,{ u with rg:=u.rg.set c.range z})->Calls Tryz.prog 159 #[.pointer (some ⟨mb,0,none⟩),.pointer (some ⟨ca,co,none⟩)] w (fun r w'=>r=.returned (.bool y)/\di w0 mb sb db w s w' (s.p.rgd c.range z))->Calls Tryz.prog 129 #[.pointer (some ⟨mb,0,none⟩),.pointer (some ⟨ca,co,none⟩)] w fun r w'=>r=.returned (.bool (u.fL c.range a b).1)/\di w0 mb sb db w s w' (u.fL c.range a b).2.p:=fun y z e H=>by
    rw[e];refine Cl c0 (H.mono ?_);rintro r w1 ⟨rfl,g⟩;refine⟨rfl,g.oE ?_⟩;unfold Pst.rgd;rw[hp]
    rfl
   cases b with
   | num n=>
    have hb:vb=jq 0 n:=hb;subst hb;have T:Two w ca co p c.range 0 n:=⟨⟨cc,c0⟩,c1,cb 0 _ rfl,cb 1 _ rfl⟩
    cases x with
    | true=>exact fin true (decide (u.number<n)) (by unfold Ust.fL;rw[hxd];simp) (by rw[<-en];exact uz h T hsx)
    | false=>
     cases hsa:u.says a with
     | true=>exact fin true (decide (u.number<n)) (by unfold Ust.fL;rw[hxd,hsa];simp) (by rw[<-en];rw[hsa] at SA;exact nv h T hsx SA)
     | false=>exact fin false false (by unfold Ust.fL;rw[hxd,hsa];simp) (by rw[hsa] at SA;exact qY h T hsx SA)
   | last=>
    have hb:vb=jq 1 0:=hb;subst hb;have T:Two w ca co p c.range 1 0:=⟨⟨cc,c0⟩,c1,cb 0 _ rfl,cb 1 _ rfl⟩
    cases x with
    | true=>exact fin true (!u.says .last) (by unfold Ust.fL;rw[hxd];simp) (yE h T (by omega) hsx SB)
    | false=>exact fin (u.says a) (u.says a) (by unfold Ust.fL;rw[hxd];simp) (rQ h T (by omega) hsx SA)
   | pat q=>
    obtain⟨pb,g2,o1,o2,hb,_⟩:=hb;subst hb;have T:Two w ca co p c.range 2 0:=⟨⟨cc,c0⟩,c1,cb 0 _ rfl,cb 1 _ rfl⟩
    cases x with
    | true=>exact fin true (!u.says (.pat q)) (by unfold Ust.fL;rw[hxd];simp) (yE h T (by omega) hsx SB)
    | false=>exact fin (u.says a) (u.says a) (by unfold Ust.fL;rw[hxd];simp) (rQ h T (by omega) hsx SA)
 | a::b::d::l,_=>rw[hadr] at hlen;simp at hlen
end
theorem Gc{H:List (Nat×Nat)}{i a g:Nat}(h:H[i]? = some (a,g)):(oG H)[i*2]? = some (.int .i64 (a:Int))/\(oG H)[i*2+1]? = some (.int .i64 (g:Int)):=by
 induction H generalizing i with
 | nil=>cases h
 | cons q H ih=>
  match i,h with
  | 0,h=>injection h with h;subst h;exact⟨rfl,rfl⟩
  | i+1,h=>
   obtain⟨h1,h2⟩:=ih (i:=i) h;constructor
   .rw[show(i+1)*2=i*2+2 by omega];exact h1
   .rw[show(i+1)*2+1=i*2+1+2 by omega];exact h2
theorem Dj(q:Ptn)(t:ByteArray):∀(k fr:Nat) (s:Mc),(LW q t k fr s).length<=k
 | 0,_,_=>QD _
 | k+1,fr,s=>by
  unfold LW;split
  .have:=Dj q t k ((Ev q t fr s).fc 1).toNat (Ev q t fr s);simp;omega
  .simp
theorem uu{c:aH}{sp:List UInt8}(hp:c.new.plain.length<=2000)(hh:c.dr.length<=2000)(hs:sp.length<=4000):∀(bs:List (Nat->Int)) (r:Rst),r.acc.length<=4000->(fX c sp bs r).acc.length<=20000000
 | [],r,h=>by show r.acc.length<=_;omega
 | b::bs,r,h=>by
  by_cases h1:r.cnt+1<c.number
  .rw[rP h1];exact uu hp hh hs bs _ h
  .have hl:(r1R c sp b r).acc.length<=20000000:=by
    have hf:=qz c.new.plain sp b c.dr 0;have hm:(c.new.plain.length+sp.length)*(c.dr.length+1)<=6000*2001:=RI (by omega) (by omega);unfold r1R;rw[Qy,Qy,QZ,Re];omega
   by_cases h2:c.all=false\/4000<(r1R c sp b r).acc.length
   .rw[rO h1 h2];exact hl
   .rw[Dd h1 h2];exact uu hp hh hs bs _ (by have:=not_or.1 h2;omega)
section
variable {w0 w w' w2:World}{mb sb db lo hi:Nat}{s s':Mst}{u:Ust}{σ:Sst}{S:fN}{ca co:Nat}{cv:List Value}{c:aH}{q:Ptn}
theorem repl_t(h:Mac w0 w mb sb db s)(hc:lO w0 σ S ca co cv c)(hx:c.what=115)(hp:s.p=u.p)(hu:SOk S u):Calls Tryz.prog 63 #[.pointer (some ⟨mb,0,none⟩),.pointer (some ⟨ca,co,none⟩)] w (dJ w0 mb sb db w s (u.replace c)):=by
 cases hpat:c.pat with
 | none=>exact absurd hpat (hc.ok.sp hx)
 | some q=>
  obtain⟨hq,hho⟩:=hc.ok.pt q hpat;have hV:=hc.is.rest.c11;rw[hpat] at hV;obtain⟨v,t,h11,h12,pb,g,o1,o2,rfl,rfl,f1,f2,hB⟩:=hV;obtain⟨v15,h15,A,hcap,rfl,hol⟩:=hc.is.rest.c15;have l9:=hu.ok.sp;obtain⟨RF,hRF⟩:∃RF,RF=fX c u.space (q.LV u.space) ⟨0,[],0,false⟩:=⟨_,rfl⟩;have hacc:=uu (c:=c) hc.ok.nw hc.ok.nh l9 (q.LV u.space) ⟨0,[],0,false⟩ (QG _);rw[<-hRF] at hacc;refine IK (T:=if RF.ok then RF.acc++u.space.drop RF.done else u.space) (ok:=RF.ok) h hc.at_ hc.is.rest.c18 hc.is.rest.c6 hc.is.rest.c7 (fun hn=>by rw[hu.fb];exact hc.ok.fl (.inr hn)) hp hu.ok ?_ ?_ (fun w2 k2=>?_)
  .unfold oC;rw[hpat];dsimp only;rw[<-hRF]
   cases RF.ok<;>rfl
  .split
   .rw[Qy,QZ];omega
   .omega
  .have kk:=h.r.kp.trans k2;have hfx:∀f∈σ.fs,w2.heap[f.1]? = some f.2:=fun f hf=>(kk.block f.1 (aN (hc.fx f hf)) (by simp)).trans (hc.fx f hf);have cell:∀(j:Nat) (v:Value),cv[j]? = some v->w2.cell? ⟨ca,co+j,none⟩=some v:=fun j v hv=>(kk.cell (p:=⟨ca,co+j,none⟩) hc.at_.lt (by simp)).trans (hc.at_.at_ j v hv);obtain⟨g2,cc,hcd,h1,h2⟩:=PI hq (hB w2 (hfx _ f1) (hfx _ f2))
   have hR:Rp w2 ca (co+11) pb c.new.plain c.dr c.all c.number:=⟨cell 11 _ h11,cell 14 _ hc.is.rest.c14,⟨A,hcap,cell 15 _ h15,fun i a g h=>by
    rcases hol with e|⟨hb,cells,rfl,hm,ht⟩
    .rw[e] at h;cases h
    .have hh:=hfx _ hm;have hi:i<c.dr.length:=(List.getElem?_eq_some_iff.1 h).1;obtain⟨q1,q2⟩:=Gc h;rw[<-ht,Rr,QB (by omega)] at q1 q2;refine⟨hb,rfl,?_,?_⟩
     .simp only[World.cell?,hh];simpa using q1
     .simp only[World.cell?,hh];simpa using q2⟩,cell 16 _ hc.is.rest.c16,cell 17 _ hc.is.rest.c17⟩
   have hnD:q.n*(q.D+1)<=9000:=hq.dd;have hlen:(q.LV u.space).length<=100000000:=by
    have:=Dj q (ba u.space) (((ba u.space).size+1)*(q.n*(q.D+1))+1) 0 mc0;have h2:((ba u.space).size+1)*(q.n*(q.D+1))<=4001*9000:=RI (by rw[ay];omega) hnD;unfold Ptn.LV;omega
   refine(E8 hR hcd h1 h2 (zO hq).bg hnD hq.g l9 (MS hq u.space) (plcs_ok hq u.space) hho hc.ok.nw hc.ok.nh hc.ok.nb hlen).mono ?_;rintro r w3 ⟨k3,rfl⟩;exact⟨k3,by rw[<-hRF]⟩
theorem OV(h:Mac w0 w mb sb db s)(hc:lO w0 σ S ca co cv c)(hp:s.p=u.p)(hu:SOk S u) :
  Calls Tryz.prog 62 #[.pointer (some ⟨mb,0,none⟩),.pointer (some ⟨ca,co,none⟩)] w (dJ w0 mb sb db w s (match (if c.fw.length=2/\c.neg=false/\u.rg.getD c.range false=true then .ok u else u.tell c.text.plain:RU) with
   | .error e=>.error e
   | .ok u1=>u1.aO)):=by
 obtain⟨v0,h0,hA⟩:=hc.is.c0;have hsl:∃A cc,v0=.slice A c.fw.length cc:=by
  rcases hA with⟨e,rfl⟩|⟨p,cc,cells,rfl,_⟩
  .have:c.fw=[]:=List.map_eq_nil_iff.1 e;rw[this];exact⟨none,0,rfl⟩
  .rw[Q7];exact⟨_,_,rfl⟩
 obtain⟨A,cc,rfl⟩:=hsl;by_cases h2:c.fw.length=2
 .rw[h2] at h0
  cases hn:c.neg with
  | true=>
   rw[Qw (by simp)];exact GN h hc.at_ hc.is.rest.c10 hc.ok.tx h0 (by rw[hc.is.c2,hn]) hp hu.ok
  | false=>
   have hrg:c.range<u.rg.length:=by rw[hu.rg];exact hc.ok.rng h2
   obtain⟨x,hx⟩:∃x,u.rg[c.range]? = some x:=⟨_,QA hrg⟩;have hxd:u.rg.getD c.range false=x:=by rw[List.getD_eq_getElem?_getD,hx];rfl
   cases x with
   | true=>
    rw[QB ⟨h2,rfl,hxd⟩];exact KS h hc.at_ hc.is.rest.c10 hc.ok.tx h0 (by rw[hc.is.c2,hn]) hc.is.c1 hx hp hu.ok
   | false=>
    rw[Qw (by rw[hxd];simp)];exact GK h hc.at_ hc.is.rest.c10 hc.ok.tx h0 (by rw[hc.is.c2,hn]) hc.is.c1 hx hp hu.ok
 .rw[Qw (fun q=>h2 q.1)];exact GO h hc.at_ hc.is.rest.c10 hc.ok.tx h0 h2 hc.ok.adr hp hu.ok
def fV(w0:World)(mb sb db:Nat)(S:fN)(ca co:Nat)(c:aH):Prop:=
 ∃f i,Instr.findNow (.int .u8) (.int .u8 c.what) (uj 0 iZ) 0=some (some (i,.func (.func f) #[] #[]))/\Enters f /\
  ∀(w:World) (s:Mst) (u:Ust),Mac w0 w mb sb db s->s.p=u.p->SOk S u->Calls Tryz.prog f #[.pointer (some ⟨mb,0,none⟩),.pointer (some ⟨ca,co,none⟩)] w (dJ w0 mb sb db w s (u.lB S.quiet c))
theorem gD{f:Nat}(hf:iZ.find? (fun q=>c.what==q.1)=some (c.what,f))(he:Enters f)(ho:∀(w:World) (s:Mst) (u:Ust),Mac w0 w mb sb db s->s.p=u.p->SOk S u->Calls Tryz.prog f #[.pointer (some ⟨mb,0,none⟩),.pointer (some ⟨ca,co,none⟩)] w (dJ w0 mb sb db w s (u.lB S.quiet c))):fV w0 mb sb db S ca co c:=by
 obtain⟨j,hj⟩:=pG c.what iZ 0 0 c.what f hf;exact⟨f,j,hj,he,ho⟩
theorem Ow(hc:lO w0 σ S ca co cv c)(hx:c.what=123):fV w0 mb sb db S ca co c:=by
 refine gD (f:=57) (by rw[hx];rfl) (fun p q w=>by simp[go_sem]) (fun w s u h hp hu=>?_);unfold Ust.lB;rw[QB hx];exact enter_t h hp
theorem deed_98(hc:lO w0 σ S ca co cv c)(hx:c.what=98):fV w0 mb sb db S ca co c:=by
 refine gD (f:=58) (by rw[hx];rfl) (fun p q w=>by simp[go_sem]) (fun w s u h hp hu=>?_);unfold Ust.lB;rw[Qw (by rw[hx];omega)];rw[QB hx];exact O7 h hc.at_ hc.is.rest.c5 hp
theorem OA(hc:lO w0 σ S ca co cv c)(hx:c.what=116):fV w0 mb sb db S ca co c:=by
 refine gD (f:=59) (by rw[hx];rfl) (fun p q w=>by simp[go_sem]) (fun w s u h hp hu=>?_);unfold Ust.lB;rw[Qw (by rw[hx];omega)];rw[Qw (by rw[hx];omega)];rw[QB hx];exact GU h hc.at_ hc.is.rest.c5 hp
theorem deed_97(hc:lO w0 σ S ca co cv c)(hx:c.what=97):fV w0 mb sb db S ca co c:=by
 refine gD (f:=60) (by rw[hx];rfl) (fun p q w=>by simp[go_sem]) (fun w s u h hp hu=>?_);unfold Ust.lB;iterate 3 rw[Qw (by rw[hx];omega)]
 rw[QB hx];exact bring_t h hc.at_ hc.is.rest.c10 hp hu.ok
theorem OI(hc:lO w0 σ S ca co cv c)(hx:c.what=105):fV w0 mb sb db S ca co c:=by
 refine gD (f:=61) (by rw[hx];rfl) (fun p q w=>by simp[go_sem]) (fun w s u h hp hu=>?_);unfold Ust.lB;iterate 4 rw[Qw (by rw[hx];omega)]
 rw[QB hx];exact NU h hc.at_ hc.is.rest.c10 hc.ok.tx hp hu.ok
theorem deed_99(hc:lO w0 σ S ca co cv c)(hx:c.what=99):fV w0 mb sb db S ca co c:=by
 refine gD (f:=62) (by rw[hx];rfl) (fun p q w=>by simp[go_sem]) (fun w s u h hp hu=>?_);unfold Ust.lB;iterate 5 rw[Qw (by rw[hx];omega)]
 rw[QB hx];exact OV h hc hp hu
theorem OB(hc:lO w0 σ S ca co cv c)(hx:c.what=115):fV w0 mb sb db S ca co c:=by
 refine gD (f:=63) (by rw[hx];rfl) (fun p q w=>by simp[go_sem]) (fun w s u h hp hu=>?_);unfold Ust.lB;iterate 6 rw[Qw (by rw[hx];omega)]
 rw[QB hx];exact repl_t h hc hx hp hu
theorem Ox(hc:lO w0 σ S ca co cv c)(hx:c.what=121):fV w0 mb sb db S ca co c:=by
 refine gD (f:=64) (by rw[hx];rfl) (fun p q w=>by simp[go_sem]) (fun w s u h hp hu=>?_);unfold Ust.lB;iterate 7 rw[Qw (by rw[hx];omega)]
 rw[QB hx];exact Gn h hc.at_ hc.is.rest.c20 hc.is.rest.c22 hc.ok.yl hc.ok.yy hp hu.ok
theorem OL(hc:lO w0 σ S ca co cv c)(hx:c.what=100):fV w0 mb sb db S ca co c:=by
 refine gD (f:=65) (by rw[hx];rfl) (fun p q w=>by simp[go_sem]) (fun w s u h hp hu=>?_);unfold Ust.lB;iterate 8 rw[Qw (by rw[hx];omega)]
 rw[QB hx];exact drop_t h hp hu.ok
theorem deed_68(hc:lO w0 σ S ca co cv c)(hx:c.what=68):fV w0 mb sb db S ca co c:=by
 refine gD (f:=66) (by rw[hx];rfl) (fun p q w=>by simp[go_sem]) (fun w s u h hp hu=>?_);unfold Ust.lB;iterate 9 rw[Qw (by rw[hx];omega)]
 rw[QB hx];exact BQ h hp hu.ok
theorem OK(hc:lO w0 σ S ca co cv c)(hx:c.what=103):fV w0 mb sb db S ca co c:=by
 refine gD (f:=67) (by rw[hx];rfl) (fun p q w=>by simp[go_sem]) (fun w s u h hp hu=>?_);unfold Ust.lB;iterate 10 rw[Qw (by rw[hx];omega)]
 rw[QB hx];exact get_t h hp
theorem deed_71(hc:lO w0 σ S ca co cv c)(hx:c.what=71):fV w0 mb sb db S ca co c:=by
 refine gD (f:=68) (by rw[hx];rfl) (fun p q w=>by simp[go_sem]) (fun w s u h hp hu=>?_);unfold Ust.lB;iterate 11 rw[Qw (by rw[hx];omega)]
 rw[QB hx];exact BB h hp hu.ok
theorem OJ(hc:lO w0 σ S ca co cv c)(hx:c.what=104):fV w0 mb sb db S ca co c:=by
 refine gD (f:=69) (by rw[hx];rfl) (fun p q w=>by simp[go_sem]) (fun w s u h hp hu=>?_);unfold Ust.lB;iterate 12 rw[Qw (by rw[hx];omega)]
 rw[QB hx];exact hold_t h hp
theorem deed_72(hc:lO w0 σ S ca co cv c)(hx:c.what=72):fV w0 mb sb db S ca co c:=by
 refine gD (f:=70) (by rw[hx];rfl) (fun p q w=>by simp[go_sem]) (fun w s u h hp hu=>?_);unfold Ust.lB;iterate 13 rw[Qw (by rw[hx];omega)]
 rw[QB hx];exact zg h hp hu.ok
theorem Oy(hc:lO w0 σ S ca co cv c)(hx:c.what=120):fV w0 mb sb db S ca co c:=by
 refine gD (f:=71) (by rw[hx];rfl) (fun p q w=>by simp[go_sem]) (fun w s u h hp hu=>?_);unfold Ust.lB;iterate 14 rw[Qw (by rw[hx];omega)]
 rw[QB hx];exact swap_t h hp
theorem OG(hP:Prg w0 lo hi sb σ S)(hc:lO w0 σ S ca co cv c)(hx:c.what=110):fV w0 mb sb db S ca co c:=by
 refine gD (f:=72) (by rw[hx];rfl) (fun p q w=>by simp[go_sem]) (fun w s u h hp hu=>?_);unfold Ust.lB;iterate 15 rw[Qw (by rw[hx];omega)]
 rw[QB hx];exact(by rw[<-hP.pg.qt];exact Fu h hP.sc hp hu.ok)
theorem deed_78(hP:Prg w0 lo hi sb σ S)(hc:lO w0 σ S ca co cv c)(hx:c.what=78):fV w0 mb sb db S ca co c:=by
 refine gD (f:=73) (by rw[hx];rfl) (fun p q w=>by simp[go_sem]) (fun w s u h hp hu=>?_);unfold Ust.lB;iterate 16 rw[Qw (by rw[hx];omega)]
 rw[QB hx];exact(by rw[<-hP.pg.qt];exact yL h hP.sc hp hu.ok)
theorem OE(hc:lO w0 σ S ca co cv c)(hx:c.what=112):fV w0 mb sb db S ca co c:=by
 refine gD (f:=74) (by rw[hx];rfl) (fun p q w=>by simp[go_sem]) (fun w s u h hp hu=>?_);unfold Ust.lB;iterate 17 rw[Qw (by rw[hx];omega)]
 rw[QB hx];exact print_t h hp hu.ok
theorem deed_80(hc:lO w0 σ S ca co cv c)(hx:c.what=80):fV w0 mb sb db S ca co c:=by
 refine gD (f:=75) (by rw[hx];rfl) (fun p q w=>by simp[go_sem]) (fun w s u h hp hu=>?_);unfold Ust.lB;iterate 18 rw[Qw (by rw[hx];omega)]
 rw[QB hx];exact yF h hp hu.ok
theorem OH(hc:lO w0 σ S ca co cv c)(hx:c.what=108):fV w0 mb sb db S ca co c:=by
 refine gD (f:=76) (by rw[hx];rfl) (fun p q w=>by simp[go_sem]) (fun w s u h hp hu=>?_);unfold Ust.lB;iterate 19 rw[Qw (by rw[hx];omega)]
 rw[QB hx];exact list_t h hp hu.ok
theorem deed_61(hP:Prg w0 lo hi sb σ S)(hc:lO w0 σ S ca co cv c)(hx:c.what=61):fV w0 mb sb db S ca co c:=by
 refine gD (f:=77) (by rw[hx];rfl) (fun p q w=>by simp[go_sem]) (fun w s u h hp hu=>?_);unfold Ust.lB;iterate 20 rw[Qw (by rw[hx];omega)]
 rw[QB hx];exact yc h hP.pw hp hu.ok
theorem OC(hP:Prg w0 lo hi sb σ S)(hc:lO w0 σ S ca co cv c)(hx:c.what=113):fV w0 mb sb db S ca co c:=by
 refine gD (f:=78) (by rw[hx];rfl) (fun p q w=>by simp[go_sem]) (fun w s u h hp hu=>?_);unfold Ust.lB;iterate 21 rw[Qw (by rw[hx];omega)]
 rw[QB hx];exact(by rw[<-hP.pg.qt];exact quit_t h hP.sc hc.at_ hc.is.rest.c8 hp hu.ok)
theorem Oz(hc:lO w0 σ S ca co cv c)(hx:c.what=119):fV w0 mb sb db S ca co c:=by
 refine gD (f:=79) (by rw[hx];rfl) (fun p q w=>by simp[go_sem]) (fun w s u h hp hu=>?_);unfold Ust.lB;iterate 22 rw[Qw (by rw[hx];omega)]
 rw[QB hx];exact xW h hc.at_ hc.is.rest.c7 hp hu.ok (by rw[hu.fb];exact hc.ok.fl (.inl hx))
end
