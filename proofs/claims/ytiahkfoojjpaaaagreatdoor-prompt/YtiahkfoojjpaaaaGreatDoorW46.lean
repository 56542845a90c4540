/- What the claim needs of: XP XQ. -/
import Derived.Test.YtiahkfoojjpaaaaGreatDoorW45
import Derived.Test.YtiahkfoojjpaaaaGreatDoorW25
set_option maxRecDepth 100000
set_option maxHeartbeats 16000000
set_option linter.unusedVariables false
set_option linter.unusedSimpArgs false
namespace Go.Proofs.YtiahkfoojjpaaaaGreatDoor
open Go.RowKit
structure Kps (u u':Ust):Prop where
 ok:UOk u'
 fb:u'.fb.length=u.fb.length
 rg:u'.rg.length=u.rg.length
 st:u'.steps=u.steps
 lf:u'.left=u.left
 nm:u'.number=u.number
 en:u'.ended=u.ended
 ah:u'.ahead=u.ahead
 br:u'.br.length<=u.br.length+1
 bw:u'.aE=u.aE\/u'.br=[]
theorem Kps.GV {u:Ust} (h:UOk u):Kps u u:=⟨h,rfl,rfl,rfl,rfl,rfl,rfl,rfl,by omega,.inl rfl⟩
section
variable {u u':Ust} {t:List UInt8} {q:Bool}
theorem UOk.write {i:Nat} (h:UOk u) (e:u.write i t=.ok u'):UOk u'/\u'={ u with count:=u'.count,fb:=u'.fb }/\u'.fb.length=u.fb.length:=by
 unfold Ust.write at e;split at e
 .cases e
 .rename_i hc;injection e with e;subst e;have h1:=h.ot;refine ⟨⟨h.sp,h.hd,by show u.count+t.length+1<=_;omega,by show u.out.length<=u.count+t.length+1;omega,fun x hx=>?_,h.bt,h.bl,h.lf⟩,rfl,by simp⟩;show x.length<=u.count+t.length+1;obtain ⟨j,hj⟩:=List.getElem?_of_mem hx;replace hj:(u.fb.modify i fun x=>x++t++[10])[j]? = some x:=hj;rw [PO] at hj
  cases hu:u.fb[j]? with
  | none=>rw [hu] at hj;cases hj
  | some y=>
   rw [hu] at hj;have hy:=h.fb y (Oo hu);by_cases hij:i=j
   .simp only [hij,if_true] at hj;injection hj with hj;subst hj;simp;omega
   .simp only [hij,if_false] at hj;injection hj with hj;subst hj;show y.length<=_;omega
theorem eE (h:UOk u) (e:u.tell t=.ok u'):Kps u u'/\u'.pc=u.pc/\u'.aE=u.aE:=by
 obtain ⟨h1,h2⟩:=h.tell e;rw [h2];exact ⟨⟨by rw [<-h2];exact h1,rfl,rfl,rfl,rfl,rfl,rfl,rfl,by show u.br.length<=_;omega,.inl rfl⟩,rfl,rfl⟩
theorem jj (h:UOk u) (e:u.brought=.ok u'):Kps u u'/\u'.pc=u.pc/\u'.br=[]:=by
 obtain ⟨h1,h2⟩:=h.brought e;rw [h2];exact ⟨⟨by rw [<-h2];exact h1,rfl,rfl,rfl,rfl,rfl,rfl,rfl,by show 0<=_;omega,.inr rfl⟩,rfl,rfl⟩
theorem oV (h:UOk u) (e:u.dw q=.ok u'):Kps u u'/\u'.pc=u.pc/\u'.br=[]:=by
 obtain ⟨h1,h2⟩:=h.dw e;rw [h2];exact ⟨⟨by rw [<-h2];exact h1,rfl,rfl,rfl,rfl,rfl,rfl,rfl,by show 0<=_;omega,.inr rfl⟩,rfl,rfl⟩
theorem Kps.Bj (h:Kps u u') (hb:u'.br=[]) (wn:Wn):Kps u { u' with aE:=wn }:=⟨h.ok.aE wn,h.fb,h.rg,h.st,h.lf,h.nm,h.en,h.ah,h.br,.inr hb⟩
theorem fh (h:UOk u) (e:u.dk q=.ok u'):Kps u u'/\u'.pc=u.pc/\u'.br=[]/\u'.aE=.bw:=by
 unfold Ust.dk at e;split at e
 .cases e
 .rename_i u1 h1;injection e with e;subst e;obtain ⟨k,hp,hb⟩:=oV h h1;exact ⟨k.Bj hb _,hp,hb,rfl⟩
theorem fL (h:UOk u) (e:u.aD=.ok u'):Kps u u'/\u'.pc=u.pc/\u'.br=[]:=by
 unfold Ust.aD at e;split at e
 .cases e
 .rename_i u1 h1;injection e with e;subst e;obtain ⟨k,hp,hb⟩:=jj h h1;exact ⟨k.Bj hb _,hp,hb⟩
theorem lI {st:Nat} (h:UOk u) (e:u.eJ q st=.ok u'):Kps u u'/\u'.pc=u.pc:=by
 unfold Ust.eJ at e;split at e
 .cases e
 .rename_i u1 h1;injection e with e;subst e;obtain ⟨k,hp,hb,hw⟩:=fh h h1;exact ⟨⟨⟨k.ok.sp,k.ok.hd,k.ok.ct,k.ok.ot,k.ok.fb,k.ok.bt,k.ok.bl,k.ok.lf⟩,k.fb,k.rg,k.st,k.lf,k.nm,k.en,k.ah,k.br,.inr hb⟩,hp⟩
theorem Kps.trans {u1 u2 u3:Ust} (h:Kps u1 u2) (k:Kps u2 u3) (hb:u2.br.length<=u1.br.length) (hw:u2.aE=u1.aE):Kps u1 u3:=
 ⟨k.ok,k.fb.trans h.fb,k.rg.trans h.rg,k.st.trans h.st,k.lf.trans h.lf,k.nm.trans h.nm,k.en.trans h.en,k.ah.trans h.ah,by have:=k.br;omega,by rw [<-hw];exact k.bw⟩
theorem oW (h:UOk u) {sp:List UInt8} (hs:sp.length<=4000):Kps u { u with space:=sp }:=⟨⟨hs,h.hd,h.ct,h.ot,h.fb,h.bt,h.bl,h.lf⟩,rfl,rfl,rfl,rfl,rfl,rfl,rfl,by show u.br.length<=_;omega,.inl rfl⟩
theorem Ct (h:UOk u) {sp:List UInt8} (hs:sp.length<=4000):Kps u { u with held:=sp }:=⟨⟨h.sp,hs,h.ct,h.ot,h.fb,h.bt,h.bl,h.lf⟩,rfl,rfl,rfl,rfl,rfl,rfl,rfl,by show u.br.length<=_;omega,.inl rfl⟩
theorem Ab {c:dz} (h:UOk u) (e:u.replace c=.ok u'):Kps u u'/\u'.pc=u.pc:=by
 rw [fQ] at e
 cases hr:jg c u.space with
 | none=>
  rw [hr] at e;injection e with e;subst e;exact ⟨Kps.GV h,rfl⟩
 | some t=>
  rw [hr] at e;dsimp only at e;split at e
  .cases e
  .rename_i hl;have k0:Kps u { u with space:=t,fI:=true }:=⟨⟨by show t.length<=4000;omega,h.hd,h.ct,h.ot,h.fb,h.bt,h.bl,h.lf⟩,rfl,rfl,rfl,rfl,rfl,rfl,rfl,by show u.br.length<=_;omega,.inl rfl⟩;have fin:∀ u1,Kps u u1->u1.pc=u.pc->u1.br.length<=u.br.length->u1.aE=u.aE->fF c u1=.ok u'->Kps u u'/\u'.pc=u.pc:=fun u1 k1 hp hb hw e=>by
    unfold fF at e;split at e
    .injection e with e;subst e;exact ⟨k1,hp⟩
    .obtain ⟨q1,q2,q3⟩:=k1.ok.write e;have k2:Kps u1 u':=by
      rw [q2];exact ⟨by rw [<-q2];exact q1,q3,rfl,rfl,rfl,rfl,rfl,rfl,by show u1.br.length<=_;omega,.inl rfl⟩
     refine ⟨k1.trans k2 hb hw,?_⟩;rw [q2];exact hp
   split at e
   .cases hT:({ u with space:=t,fI:=true }:Ust).tell t with
    | error q=>rw [hT] at e;cases e
    | ok u1=>
     rw [hT] at e;obtain ⟨k1,hp1,hw1⟩:=eE k0.ok hT;have hb1:u1.br.length<=u.br.length:=by
      obtain ⟨_,q2⟩:=k0.ok.tell hT;rw [q2];exact Od _
     exact fin u1 (k0.trans k1 (Od _) rfl) hp1 hb1 hw1 e
   .exact fin _ k0 rfl (Od _) rfl e
theorem jK {a b:List UInt8} {f:List UInt8->Ust} (e:Ust.gD a b f u=.ok u'):∃ t,t.length<=4000/\u'=f t:=by
 unfold Ust.gD at e;split at e
 .cases e
 .rename_i hl;injection e with e;exact ⟨_,by omega,e.symm⟩
theorem Cu {c:dz} {n:Nat} (h:UOk u) (hb:u.br.length<=2000) (ht:c.text.plain.length<=2000) (hg:c.goal<=n) (hp:u.pc<=n) (e:u.iD q c=.ok u'):Kps u u'/\u'.pc<=n:=by
 have pcs:∀ {x:Ust},x.pc=u.pc->x.pc<=n:=fun e=>by rw [e];exact hp
 unfold Ust.iD at e;by_cases x123:c.what=123
 .rw [Oa x123] at e;injection e with e;subst e;exact ⟨Kps.GV h,hp⟩
 rw [N7 x123] at e;by_cases x98:c.what=98
 .rw [Oa x98] at e;injection e with e;subst e;have k:=Kps.GV h;exact ⟨⟨⟨h.sp,h.hd,h.ct,h.ot,h.fb,h.bt,h.bl,h.lf⟩,k.fb,k.rg,k.st,k.lf,k.nm,k.en,k.ah,k.br,.inl rfl⟩,hg⟩
 rw [N7 x98] at e;by_cases x116:c.what=116
 .rw [Oa x116] at e;injection e with e;subst e;split
  .have k:=Kps.GV h;exact ⟨⟨⟨h.sp,h.hd,h.ct,h.ot,h.fb,h.bt,h.bl,h.lf⟩,k.fb,k.rg,k.st,k.lf,k.nm,k.en,k.ah,k.br,.inl rfl⟩,hg⟩
  .exact ⟨Kps.GV h,hp⟩
 rw [N7 x116] at e;by_cases x97:c.what=97
 .rw [Oa x97] at e;injection e with e;subst e;have k:=Kps.GV h;refine ⟨⟨⟨h.sp,h.hd,h.ct,h.ot,h.fb,fun t ht'=>?_,by show (u.br++[c.text.plain]).length<=2001;simp;omega,h.lf⟩,k.fb,k.rg,k.st,k.lf,k.nm,k.en,k.ah,by show (u.br++[c.text.plain]).length<=_;simp,.inl rfl⟩,hp⟩;replace ht':t∈u.br++[c.text.plain]:=ht';rcases List.mem_append.1 ht' with q | q
  .exact h.bt t q
  .rw [List.mem_singleton.1 q];exact ht
 rw [N7 x97] at e;by_cases x105:c.what=105
 .rw [Oa x105] at e;obtain ⟨k,hp',_⟩:=eE h e;exact ⟨k,pcs hp'⟩
 rw [N7 x105] at e;by_cases x99:c.what=99
 .rw [Oa x99] at e;split at e
  .cases e
  .rename_i u1 h1;split at h1
   .injection h1 with h1;subst h1;obtain ⟨k,hp',_⟩:=fL h e;exact ⟨k,pcs hp'⟩
   .obtain ⟨k1,hp1,hw1⟩:=eE h h1;have hb1:u1.br.length<=u.br.length:=by
     obtain ⟨_,q2⟩:=h.tell h1;rw [q2];exact Od _
    obtain ⟨k2,hp2,_⟩:=fL k1.ok e;exact ⟨k1.trans k2 hb1 hw1,pcs (hp2.trans hp1)⟩
 rw [N7 x99] at e;by_cases x115:c.what=115
 .rw [Oa x115] at e;obtain ⟨k,hp'⟩:=Ab h e;exact ⟨k,pcs hp'⟩
 rw [N7 x115] at e;by_cases x121:c.what=121
 .rw [Oa x121] at e;injection e with e;subst e;exact ⟨oW h (by rw [OE];exact h.sp),hp⟩
 rw [N7 x121] at e;by_cases x100:c.what=100
 .rw [Oa x100] at e;obtain ⟨k,hp',_⟩:=fL h e;exact ⟨k,pcs hp'⟩
 rw [N7 x100] at e;by_cases x68:c.what=68
 .rw [Oa x68] at e;split at e
  .obtain ⟨k,hp',_⟩:=fL h e;exact ⟨k,pcs hp'⟩
  .rename_i rest hrest;split at e
   .cases e
   .rename_i u1 h1;injection e with e;subst e;obtain ⟨k,hp',hbr⟩:=jj h h1;have hr:rest.length<=4000:=by
     have h1:=nR u.space;have h2:=h.sp;rw [hrest] at h1;simp at h1;omega
    exact ⟨⟨⟨hr,k.ok.hd,k.ok.ct,k.ok.ot,k.ok.fb,k.ok.bt,k.ok.bl,k.ok.lf⟩,k.fb,k.rg,k.st,k.lf,k.nm,k.en,k.ah,k.br,.inr hbr⟩,Og _⟩
 rw [N7 x68] at e;by_cases x103:c.what=103
 .rw [Oa x103] at e;injection e with e;subst e;exact ⟨oW h h.hd,hp⟩
 rw [N7 x103] at e;by_cases x71:c.what=71
 .rw [Oa x71] at e;obtain ⟨t,htl,rfl⟩:=jK e;exact ⟨oW h htl,hp⟩
 rw [N7 x71] at e;by_cases x104:c.what=104
 .rw [Oa x104] at e;injection e with e;subst e;exact ⟨Ct h h.sp,hp⟩
 rw [N7 x104] at e;by_cases x72:c.what=72
 .rw [Oa x72] at e;obtain ⟨t,htl,rfl⟩:=jK e;exact ⟨Ct h htl,hp⟩
 rw [N7 x72] at e;by_cases x120:c.what=120
 .rw [Oa x120] at e;injection e with e;subst e;have k:=Kps.GV h;exact ⟨⟨⟨h.hd,h.sp,h.ct,h.ot,h.fb,h.bt,h.bl,h.lf⟩,k.fb,k.rg,k.st,k.lf,k.nm,k.en,k.ah,k.br,.inl rfl⟩,hp⟩
 rw [N7 x120] at e;by_cases x110:c.what=110
 .rw [Oa x110] at e;split at e
  .obtain ⟨k,hp'⟩:=lI h e;exact ⟨k,pcs hp'⟩
  .split at e
   .cases e
   .rename_i u1 h1;injection e with e;subst e;obtain ⟨k,hp',hbr⟩:=oV h h1;exact ⟨k.Bj hbr _,pcs hp'⟩
 rw [N7 x110] at e;by_cases x78:c.what=78
 .rw [Oa x78] at e;split at e
  .obtain ⟨k,hp'⟩:=lI h e;exact ⟨k,pcs hp'⟩
  .split at e
   .cases e
   .rename_i u1 h1;injection e with e;subst e;obtain ⟨k,hp',hbr⟩:=jj h h1;exact ⟨k.Bj hbr _,pcs hp'⟩
 rw [N7 x78] at e;by_cases x112:c.what=112
 .rw [Oa x112] at e;obtain ⟨k,hp',_⟩:=eE h e;exact ⟨k,pcs hp'⟩
 rw [N7 x112] at e;by_cases x80:c.what=80
 .rw [Oa x80] at e;obtain ⟨k,hp',_⟩:=eE h e;exact ⟨k,pcs hp'⟩
 rw [N7 x80] at e;by_cases x108:c.what=108
 .rw [Oa x108] at e;obtain ⟨k,hp',_⟩:=eE h e;exact ⟨k,pcs hp'⟩
 rw [N7 x108] at e;by_cases x61:c.what=61
 .rw [Oa x61] at e;obtain ⟨k,hp',_⟩:=eE h e;exact ⟨k,pcs hp'⟩
 rw [N7 x61] at e;by_cases x113:c.what=113
 .rw [Oa x113] at e;obtain ⟨k,hp'⟩:=lI h e;exact ⟨k,pcs hp'⟩
 rw [N7 x113] at e;by_cases x119:c.what=119
 .rw [Oa x119] at e;obtain ⟨q1,q2,q3⟩:=h.write e;rw [q2];exact ⟨⟨by rw [<-q2];exact q1,q3,rfl,rfl,rfl,rfl,rfl,rfl,by show u.br.length<=_;omega,.inl rfl⟩,hp⟩
 rw [N7 x119] at e;injection e with e;subst e;exact ⟨Kps.GV h,hp⟩
end
section
variable {w0 w w' w2:World} {mb sb db lo hi:Nat} {s s':Mst} {u:Ust} {σ:Sst} {S:eI}
theorem look_et (h:Mac w0 w mb sb db s) (hs:Scr lo hi w0 sb 0 σ) (hp:s.p=u.p) (hu:UOk u) (hpc:s.pc=σ.cs.length) :
  Calls Tryz.prog 83 #[.pointer (some ⟨mb,0,none⟩)] w (dF w0 mb sb db w s (u.dk σ.quiet)):=by
 have TE:∀ n,Calls Tryz.prog 127 #[.pointer (some ⟨mb,0,none⟩)] (w.drewN n) (dF w0 mb sb db (w.drewN n) s (u.dk σ.quiet)):=fun n=>ra (h.aj (Kp.drewN [] w n)) hs hp hu;obtain ⟨R,hR⟩:∃ R,R=u.dk σ.quiet:=⟨_,rfl⟩;rw [<-hR] at TE ⊢;have HT:=hid TE;clear TE hR;have hsw:=hs.aj h.r.kp (fun _ e=>by cases e);obtain ⟨A,c,e,_,_⟩:=aU hsw.o4;have c1:=hsw.c1;rw [e] at c1;have c0:=h.b.at_ 0 _ rfl;have c13:=h.b.at_ 13 _ rfl;rw [hpc] at c13;go_enter Tryz.func83,Tryz.ntmps83
 go_wp2_with fail;go_quiet (fail);go_wp2_with fail;refine (HT.out nq).mono ?_;intro r w1 hr;replace hr:=dF.pre (Kp.drewN [] w nq) hr
 cases R with
 | error q=>
  obtain ⟨E,u1⟩:=q;obtain ⟨rfl,g1⟩:=hr;go_wp2_with fail;exact ⟨rfl,rfl,g1⟩
 | ok u1=>
  obtain ⟨rfl,g1⟩:=hr;go_wp2_with fail;refine bodyPost_ret (results_none rfl _ _ _) rfl ?_;exact ⟨rfl,g1⟩
theorem Ir {x i f g cap goal:Nat} {nt b:Bool} {c:List Value} {p2:Pst} {R:RU} (h:Mac w0 w mb sb db s) (hs:Scr lo hi w0 sb 0 σ) (hc:σ.cs[s.pc]? = some c) (hv:σ.vc=.slice (some ⟨g,0,none⟩) σ.cs.length cap) (hx:c[3]? = some (.int .u8 x)) (hnt:c[2]? = some (.bool nt))
  (ht:Instr.findNow (.int .u8) (.int .u8 x) (tabE 0 iC) 0=some (some (i,.func (.func f) #[] #[]))) (hst:s.steps < 2000) (hpc:s.pc < 2000) (hen:Enters f)
  (hA:∀ w1 s1,Mac w0 w1 mb sb db s1->s1.p=({ s.p with pc:=s.pc+1,steps:=s.steps+1 }:Pst)->Calls Tryz.prog 129 #[.pointer (some ⟨mb,0,none⟩),.pointer (some ⟨g,s.pc * 23,none⟩)] w1 fun r w'=>r=.returned (.bool b)/\de w0 mb sb db w1 s1 w' p2)
  (hB:((b = !nt)/\∀ w2 s2,Mac w0 w2 mb sb db s2->s2.p=p2->Calls Tryz.prog f #[.pointer (some ⟨mb,0,none⟩),.pointer (some ⟨g,s.pc * 23,none⟩)] w2 (dF w0 mb sb db w2 s2 R))\/(b=nt/\x=123/\c[5]? = some (.int .i64 goal)/\∃ u,R=.ok u/\u.p=p2.goto goal)\/(b=nt/\x≠123/\∃ u,R=.ok u/\u.p=p2)) :
  Calls Tryz.prog 83 #[.pointer (some ⟨mb,0,none⟩)] w (dF w0 mb sb db w s R):=by
 have hsw:=hs.aj h.r.kp (fun _ e=>by cases e);obtain ⟨g',cap',e,hcell⟩:=hsw.cmd hc;obtain rfl:g'=g:=by rw [hv] at e;injection e with e _ _;injection e with e;injection e with e;exact e.symm
 have hlt:=(List.getElem?_eq_some_iff.1 hc).1;have c1:=hsw.c1;rw [hv] at c1;have c0:=h.b.at_ 0 _ rfl;have c13:=h.b.at_ 13 _ rfl;have hne:((s.pc:Int) == (σ.cs.length:Int))=false:=by rw [Oe];omega
 have HA:=hid hA;have HB:=hid hB;have HS:=hid hs;have HC:=hid hcell;clear hA hB hs hcell e;go_enter Tryz.func83,Tryz.ntmps83
 go_wp2_with fail;go_quiet (fail);have ha:=h.aj (Kp.drewN [] w nq);have ga:Gr mb db w s.r (w.drewN nq) s.r:=Gr.df (Kp.drewN [] w nq) (fun _ e=>by cases e);have hca:∀ j u,c[j]? = some u->(w.drewN nq).cell? ⟨g',s.pc * 23+j,none⟩=some u:=HC.out;have c1a:(w.drewN nq).cell? ⟨sb,0+1,none⟩=some (.slice (some ⟨g',0,none⟩) σ.cs.length cap):=c1;clear c0 c1 c13 hsw HC;obtain ⟨wa,hwa⟩:∃ wa,wa=w.drewN nq:=⟨_,rfl⟩;rw [<-hwa] at ha ga hca c1a ⊢;clear hwa;have HCA:=hid hca;clear hca;have c0:=ha.b.at_ 0 _ rfl;have c13:=ha.b.at_ 13 _ rfl;have f13:=ha.b.free 13;go_wp2_with fail;go_quiet (fail);obtain ⟨wb,hwb⟩:∃ wb,wb=wa.drewN nq:=⟨_,rfl⟩;have hb':=ha.aj (Kp.drewN [] wa nq);have gb:=ga.trans (Gr.df (r:=s.r) (Kp.drewN [] wa nq) (fun _ e=>by cases e));have hcb:∀ j u,c[j]? = some u->(wa.drewN nq).cell? ⟨g',s.pc * 23+j,none⟩=some u:=HCA.out;rw [<-hwb] at hb' gb hcb ⊢;clear hwb c0 c13 f13 c1a HCA ha ga h;have c13:=hb'.b.at_ 13 _ rfl
 have f13:=hb'.b.free 13;have HCB:=hid hcb;clear hcb;obtain ⟨n1,hn1⟩:∃ n1:Nat,n1=s.pc+1:=⟨_,rfl⟩;have wr:=aP s.pc n1 hn1 (by omega);have m1:=hb'.set (s':={ s with pc:=n1 }) 13 (.int .i64 (n1:Int)) (by omega) rfl rfl;have g1:=gb.trans (Gr.set (mb:=mb) (db:=db) wb s.r 13 (.int .i64 (n1:Int)));have hc1:∀ j u,c[j]? = some u->(wb.setCell ⟨mb,13,none⟩ (.int .i64 (n1:Int))).cell? ⟨g',s.pc * 23+j,none⟩=some u:=((HS.out.aj m1.r.kp (fun _ e=>by cases e)).cmd hc).elim fun g2 q=>q.elim fun cap2 q=>by
  obtain ⟨e,q⟩:=q;obtain rfl:g2=g':=by rw [hv] at e;injection e with e _ _;injection e with e;injection e with e;exact e.symm
  exact q
 have HN1:=hid hn1;have M1:=hid m1;have G1:=hid g1;have HC1:=hid hc1;clear hn1 m1 g1 hc1 gb hb';go_wp2_with fail;obtain ⟨w1,hw1⟩:∃ w1,w1=wb.setCell ⟨mb,13,none⟩ (.int .i64 (n1:Int)):=⟨_,rfl⟩;rw [<-hw1] at M1 G1 HC1 ⊢;clear hw1 c13 f13 HCB wr;have e1:=M1.out.b.at_ 1 _ rfl;have k3:=HC1.out 3 _ hx;have hlk:∀ m,(Instr.lookup 95 (.map (some db)) (.int .u8 x) true).run Tryz.prog (w1.drewN m)=.ok (.tuple #[.func (.func f) #[] #[],.bool true]) (w1.drewN m):=fun m=>
  gH Tryz.underlying95 Tryz.underlying5 (((Kp.drewN [] w1 m).block _ (M1.out.r.bk.hi 1 _ rfl) (by simp)).trans M1.out.r.md) ht
 go_quiet (fail);have m2:=M1.out.aj (Kp.drewN [] w1 nq);have g2:=G1.out.trans (Gr.df (r:=s.r) (Kp.drewN [] w1 nq) (fun _ e=>by cases e));have h2:∀ j u,c[j]? = some u->(w1.drewN nq).cell? ⟨g',s.pc * 23+j,none⟩=some u:=HC1.out;obtain ⟨wd,hwd⟩:∃ wd,wd=w1.drewN nq:=⟨_,rfl⟩;rw [<-hwd] at m2 g2 h2 ⊢;clear hwd M1 G1 HC1 e1 k3 hlk;have c14:=m2.b.at_ 14 _ rfl;have f14:=m2.b.free 14;obtain ⟨n2,hn2⟩:∃ n2:Nat,n2=s.steps+1:=⟨_,rfl⟩;have wr:=aP s.steps n2 hn2 (by omega);have q2:¬ 2000 < n2:=by omega
 have m3:=m2.set (s':={ s with pc:=n1,steps:=n2 }) 14 (.int .i64 (n2:Int)) (by omega) rfl rfl;have g3:=g2.trans (Gr.set (mb:=mb) (db:=db) wd s.r 14 (.int .i64 (n2:Int)));have hsc:=HS.out.aj m3.r.kp (fun _ e=>by cases e);have key:∀ wx,Kp [] w0 wx->∀ j u,c[j]? = some u->wx.cell? ⟨g',s.pc * 23+j,none⟩=some u:=fun wx kx=>((HS.out.aj kx (fun _ e=>by cases e)).cmd hc).elim fun g2 q=>q.elim fun cap2 q=>by
  obtain ⟨e,q⟩:=q;obtain rfl:g2=g':=by rw [hv] at e;injection e with e _ _;injection e with e;injection e with e;exact e.symm
  exact q
 have KEY:=hid key;have M3:=hid m3;have G3:=hid g3;have HN2:=hid hn2;clear key hsc m2 g2 h2 hn2;go_wp2_with fail;obtain ⟨w3,hw3⟩:∃ w3,w3=wd.setCell ⟨mb,14,none⟩ (.int .i64 (n2:Int)):=⟨_,rfl⟩;rw [<-hw3] at M3 G3 ⊢;clear hw3 c14 f14 m3 g3 wr;have HAA:=hid (HA.out (w3.drew) { s with pc:=n1,steps:=n2 } (M3.out.aj (Kp.drew [] w3)) (by rw [HN1.out,HN2.out];rfl));have k2:=KEY.out _ M3.out.r.kp 2 _ hnt;unfold Enters at hen;go_cut [66] from 67 (fun v wx=>v=.bool (b != nt)/\∃ s4,s4.p=p2/\Mac w0 wx mb sb db s4/\Gr mb db w s.r wx s4.r)
 case first=>
  go_region_with (go_at_call 129;refine HAA.out.mono ?_;rintro r w4 ⟨rfl,s4,e4,m4,g4⟩;have k2':=KEY.out _ m4.r.kp 2 _ hnt)
  all_goals
   go_wp2_with fail;go_meet
   case rel=>exact ⟨by cases nt <;> cases b <;> rfl,s4,e4,m4,G3.out.trans ((Gr.df (r:=s.r) (Kp.drew [] w3) (fun _ e=>by cases e)).trans g4)⟩
 case rest=>
 obtain ⟨rfl,s4,e4,m4,g4⟩:=hcut;have k3:=KEY.out _ m4.r.kp 3 _ hx;rcases HB.out with ⟨hb,hD⟩ | ⟨hb,hx1,h5,u1,rfl,hu1⟩ | ⟨hb,hx1,u1,rfl,hu1⟩
 .rw [show (b != nt)=true by rw [hb];cases nt <;> rfl];have HD:=hid hD;clear hD hb;go_wp2_with fail;refine (HD.out _ s4 m4 e4).mono ?_;intro r w5 hr;replace hr:=dF.after g4 hr
  cases R with
  | error q=>
   obtain ⟨E,u1⟩:=q;obtain ⟨rfl,g1⟩:=hr;go_wp2_with fail;exact ⟨rfl,rfl,g1⟩
  | ok u1=>
   obtain ⟨rfl,g1⟩:=hr;go_wp2_with fail;go_end0;exact ⟨rfl,g1⟩
 .rw [show (b != nt)=false by rw [hb];cases nt <;> rfl];have k5:=KEY.out _ m4.r.kp 5 _ h5;have c13:=m4.b.at_ 13 _ rfl;have f13:=m4.b.free 13;have q3:((x:Int) == 123)=true:=by rw [hx1];rfl
  have m5:=m4.set (s':={ s4 with pc:=goal }) 13 (.int .i64 goal) (by omega) rfl rfl;have g5:=g4.trans (Gr.set (mb:=mb) (db:=db) _ s4.r 13 (.int .i64 (goal:Int)));have G5:=hid (And.intro m5 g5);have HU:=hid hu1;clear m5 g5 hx1 hu1 hb;go_wp2_with fail;go_end0;exact ⟨rfl,{ s4 with pc:=goal },by show s4.p.goto goal=_;rw [e4,HU.out],G5.out.1,G5.out.2⟩
 .rw [show (b != nt)=false by rw [hb];cases nt <;> rfl];have q3:((x:Int) == 123)=false:=by rw [Oe];omega
  have HU:=hid hu1;clear hu1 hb;go_wp2_with fail;go_end0;exact ⟨rfl,s4,by rw [e4,HU.out],m4,g4⟩
theorem D7 {x i f g cap:Nat} {c:List Value} {p3:Pst} (h:Mac w0 w mb sb db s) (hs:Scr lo hi w0 sb 0 σ) (hc:σ.cs[s.pc]? = some c) (hv:σ.vc=.slice (some ⟨g,0,none⟩) σ.cs.length cap) (hx:c[3]? = some (.int .u8 x))
  (ht:Instr.findNow (.int .u8) (.int .u8 x) (tabE 0 iC) 0=some (some (i,.func (.func f) #[] #[]))) (hst:2000<=s.steps) (hst2:s.steps<=2000) (hpc:s.pc < 2000) (hp3:({ s.p with pc:=s.pc+1,steps:=s.steps+1 }:Pst)=p3) :
  Calls Tryz.prog 83 #[.pointer (some ⟨mb,0,none⟩)] w fun r w'=>r=ig 7 0/\de w0 mb sb db w s w' p3:=by
 have hsw:=hs.aj h.r.kp (fun _ e=>by cases e);obtain ⟨g',cap',e,hcell⟩:=hsw.cmd hc;obtain rfl:g'=g:=by rw [hv] at e;injection e with e _ _;injection e with e;injection e with e;exact e.symm
 have hlt:=(List.getElem?_eq_some_iff.1 hc).1;have c1:=hsw.c1;rw [hv] at c1;have c0:=h.b.at_ 0 _ rfl;have c13:=h.b.at_ 13 _ rfl;have hne:((s.pc:Int) == (σ.cs.length:Int))=false:=by rw [Oe];omega
 have HS:=hid hs;have HC:=hid hcell;clear hs hcell e;go_enter Tryz.func83,Tryz.ntmps83
 go_wp2_with fail;go_quiet (fail);have ha:=h.aj (Kp.drewN [] w nq);have ga:Gr mb db w s.r (w.drewN nq) s.r:=Gr.df (Kp.drewN [] w nq) (fun _ e=>by cases e);have hca:∀ j u,c[j]? = some u->(w.drewN nq).cell? ⟨g',s.pc * 23+j,none⟩=some u:=HC.out;have c1a:(w.drewN nq).cell? ⟨sb,0+1,none⟩=some (.slice (some ⟨g',0,none⟩) σ.cs.length cap):=c1;clear c0 c1 c13 hsw HC;obtain ⟨wa,hwa⟩:∃ wa,wa=w.drewN nq:=⟨_,rfl⟩;rw [<-hwa] at ha ga hca c1a ⊢;clear hwa;have HCA:=hid hca;clear hca;have c0:=ha.b.at_ 0 _ rfl;have c13:=ha.b.at_ 13 _ rfl;have f13:=ha.b.free 13;go_wp2_with fail;go_quiet (fail);obtain ⟨wb,hwb⟩:∃ wb,wb=wa.drewN nq:=⟨_,rfl⟩;have hb':=ha.aj (Kp.drewN [] wa nq);have gb:=ga.trans (Gr.df (r:=s.r) (Kp.drewN [] wa nq) (fun _ e=>by cases e));have hcb:∀ j u,c[j]? = some u->(wa.drewN nq).cell? ⟨g',s.pc * 23+j,none⟩=some u:=HCA.out;rw [<-hwb] at hb' gb hcb ⊢;clear hwb c0 c13 f13 c1a HCA ha ga h;have c13:=hb'.b.at_ 13 _ rfl
 have f13:=hb'.b.free 13;have HCB:=hid hcb;clear hcb;obtain ⟨n1,hn1⟩:∃ n1:Nat,n1=s.pc+1:=⟨_,rfl⟩;have wr:=aP s.pc n1 hn1 (by omega);have m1:=hb'.set (s':={ s with pc:=n1 }) 13 (.int .i64 (n1:Int)) (by omega) rfl rfl;have g1:=gb.trans (Gr.set (mb:=mb) (db:=db) wb s.r 13 (.int .i64 (n1:Int)));have hc1:∀ j u,c[j]? = some u->(wb.setCell ⟨mb,13,none⟩ (.int .i64 (n1:Int))).cell? ⟨g',s.pc * 23+j,none⟩=some u:=((HS.out.aj m1.r.kp (fun _ e=>by cases e)).cmd hc).elim fun g2 q=>q.elim fun cap2 q=>by
  obtain ⟨e,q⟩:=q;obtain rfl:g2=g':=by rw [hv] at e;injection e with e _ _;injection e with e;injection e with e;exact e.symm
  exact q
 have HN1:=hid hn1;have M1:=hid m1;have G1:=hid g1;have HC1:=hid hc1;clear hn1 m1 g1 hc1 gb hb';go_wp2_with fail;obtain ⟨w1,hw1⟩:∃ w1,w1=wb.setCell ⟨mb,13,none⟩ (.int .i64 (n1:Int)):=⟨_,rfl⟩;rw [<-hw1] at M1 G1 HC1 ⊢;clear hw1 c13 f13 HCB wr;have e1:=M1.out.b.at_ 1 _ rfl;have k3:=HC1.out 3 _ hx;have hlk:∀ m,(Instr.lookup 95 (.map (some db)) (.int .u8 x) true).run Tryz.prog (w1.drewN m)=.ok (.tuple #[.func (.func f) #[] #[],.bool true]) (w1.drewN m):=fun m=>
  gH Tryz.underlying95 Tryz.underlying5 (((Kp.drewN [] w1 m).block _ (M1.out.r.bk.hi 1 _ rfl) (by simp)).trans M1.out.r.md) ht
 go_quiet (fail);have m2:=M1.out.aj (Kp.drewN [] w1 nq);have g2:=G1.out.trans (Gr.df (r:=s.r) (Kp.drewN [] w1 nq) (fun _ e=>by cases e));have h2:∀ j u,c[j]? = some u->(w1.drewN nq).cell? ⟨g',s.pc * 23+j,none⟩=some u:=HC1.out;obtain ⟨wd,hwd⟩:∃ wd,wd=w1.drewN nq:=⟨_,rfl⟩;rw [<-hwd] at m2 g2 h2 ⊢;clear hwd M1 G1 HC1 e1 k3 hlk;have c14:=m2.b.at_ 14 _ rfl;have f14:=m2.b.free 14;obtain ⟨n2,hn2⟩:∃ n2:Nat,n2=s.steps+1:=⟨_,rfl⟩;have wr:=aP s.steps n2 hn2 (by omega);have q2:2000 < n2:=by omega
 have m3:=m2.set (s':={ s with pc:=n1,steps:=n2 }) 14 (.int .i64 (n2:Int)) (by omega) rfl rfl;have g3:=g2.trans (Gr.set (mb:=mb) (db:=db) wd s.r 14 (.int .i64 (n2:Int)));have hsc:=HS.out.aj m3.r.kp (fun _ e=>by cases e);have key:∀ wx,Kp [] w0 wx->∀ j u,c[j]? = some u->wx.cell? ⟨g',s.pc * 23+j,none⟩=some u:=fun wx kx=>((HS.out.aj kx (fun _ e=>by cases e)).cmd hc).elim fun g2 q=>q.elim fun cap2 q=>by
  obtain ⟨e,q⟩:=q;obtain rfl:g2=g':=by rw [hv] at e;injection e with e _ _;injection e with e;injection e with e;exact e.symm
  exact q
 have KEY:=hid key;have M3:=hid m3;have G3:=hid g3;have HN2:=hid hn2;clear key hsc m2 g2 h2 hn2;go_wp2_with fail;obtain ⟨w3,hw3⟩:∃ w3,w3=wd.setCell ⟨mb,14,none⟩ (.int .i64 (n2:Int)):=⟨_,rfl⟩;rw [<-hw3] at M3 G3 ⊢;clear hw3 c14 f14 m3 g3 wr;refine (nP 7 _).mono ?_;rintro r w5 ⟨rfl,rfl⟩;go_wp2_with fail;refine ⟨rfl,rfl,_,?_,M3.out,G3.out⟩;rw [<-hp3,HN1.out,HN2.out]
 rfl
structure gE (S:eI) (u:Ust):Prop where
 ok:SOk S u
 bs:u.br.length<=u.steps
 bw:u.aE≠.no->u.br=[]
theorem Av:∀ x,(x=125\/x=58)->iC.find? (fun q=>x == q.1)=none:=by
 rintro x (rfl | rfl) <;> rfl
theorem deed_t {ca co:Nat} {cv:List Value} {c:dz} (hP:Prg w0 lo hi sb σ S) (hc:jX w0 σ S ca co cv c) (hx:¬ (c.what=125\/c.what=58)):fE w0 mb sb db S ca co c:=by
 have hm:c.what∈jx:=by simpa using hc.ok.wh
 simp only [jx,OQ,OZ,or_false] at hm;rcases hm with h | h | h | h | h | h | h | h | h | h | h | h | h | h | h | h | h | h | h | h | h | h | h | h | h
 .exact Mf hc h
 .exact absurd (.inl h) hx
 .exact absurd (.inr h) hx
 .exact deed_98 hc h
 .exact Mj hc h
 .exact deed_97 hc h
 .exact Mr hc h
 .exact deed_99 hc h
 .exact Ml hc h
 .exact Mg hc h
 .exact Mm hP hc h
 .exact Mi hc h
 .exact Mu hc h
 .exact deed_68 hc h
 .exact Mt hc h
 .exact deed_71 hc h
 .exact Ms hc h
 .exact deed_72 hc h
 .exact Mh hc h
 .exact Mp hP hc h
 .exact deed_78 hP hc h
 .exact Mo hc h
 .exact deed_80 hc h
 .exact Mq hc h
 .exact deed_61 hP hc h
theorem fj (u:Ust) (c:dz):∃ rg,(u.addressed c).2={ u with rg:=rg }/\rg.length=u.rg.length:=by
 unfold Ust.addressed;split
 .exact ⟨u.rg,rfl,rfl⟩
 .exact ⟨u.rg,rfl,rfl⟩
 .unfold Ust.ranged;split
  .exact ⟨_,rfl,by simp⟩
  .split
   .exact ⟨_,rfl,by simp⟩
   .exact ⟨_,rfl,by simp⟩
theorem look_t (hP:Prg w0 lo hi sb σ S) (h:Mac w0 w mb sb db s) (hp:s.p=u.p) (hu:gE S u) :
  Calls Tryz.prog 83 #[.pointer (some ⟨mb,0,none⟩)] w (dF w0 mb sb db w s (u.look S)):=by
 have epc:s.pc=u.pc:=congrArg Pst.pc hp;have est:s.steps=u.steps:=congrArg Pst.steps hp;have hlen:=hP.ok.cl;unfold Ust.look
 cases hcm:S.aI[u.pc]? with
 | none=>
  have hpc:u.pc=S.aI.length:=by
   have:=List.getElem?_eq_none_iff.1 hcm;have:=hu.ok.pc;omega
  rw [<-hP.pg.qt];exact look_et h hP.sc hp hu.ok.ok (by rw [epc,hpc,hP.pg.len])
 | some c=>
  have hlt:=(List.getElem?_eq_some_iff.1 hcm).1;obtain ⟨g,cap,cv,hv,hcv,hc⟩:=hP.cmd hcm;have hcv':σ.cs[s.pc]? = some cv:=by rw [epc];exact hcv
  dsimp only;by_cases hpl:c.what=125\/c.what=58
  .rw [Oa hpl];refine (D8 h hP.sc hcv' hv hc.is.c3 (oo _ _ 0 0 (Av _ hpl)) (by omega)).mono ?_;rintro r w1 ⟨rfl,g1⟩;refine ⟨rfl,g1.nC ?_⟩;unfold Pst.goto;rw [hp,epc]
   rfl
  .rw [N7 hpl];obtain ⟨f,i,hf,hen,hD⟩:=deed_t (mb:=mb) (db:=db) hP hc hpl;by_cases hst:2000 < u.steps+1
   .rw [Oa hst];have hs2:=hu.ok.st;refine (D7 (p3:=({ u with pc:=u.pc+1,steps:=u.steps+1 }:Ust).p) h hP.sc hcv' hv hc.is.c3 hf (by omega) (by omega) (by omega) ?_).mono ?_
    .rw [hp,epc,est]
     rfl
    .rintro r w1 ⟨rfl,g1⟩;exact ⟨rfl,g1⟩
   .rw [N7 hst];obtain ⟨u2,hu2⟩:∃ u2:Ust,u2={ u with pc:=u.pc+1,steps:=u.steps+1 }:=⟨_,rfl⟩;rw [<-hu2];have q2:({ s.p with pc:=s.pc+1,steps:=s.steps+1 }:Pst)=u2.p:=by rw [hp,epc,est,hu2];rfl
    have hk:=hu.ok.ok;have ok2:SOk S u2:=by
     rw [hu2];exact ⟨⟨hk.sp,hk.hd,hk.ct,hk.ot,hk.fb,hk.bt,hk.bl,hk.lf⟩,hu.ok.fb,hu.ok.rg,by show u.pc+1<=_;omega,by show u.steps+1<=2000;omega⟩
    obtain ⟨rg,har,hrl⟩:=fj u2 c;have ok3:SOk S (u2.addressed c).2:=by
     rw [har];exact ⟨⟨ok2.ok.sp,ok2.ok.hd,ok2.ok.ct,ok2.ok.ot,ok2.ok.fb,ok2.ok.bt,ok2.ok.bl,ok2.ok.lf⟩,ok2.fb,hrl.trans ok2.rg,ok2.pc,ok2.st⟩
    have hA:∀ w1 s1,Mac w0 w1 mb sb db s1->s1.p=({ s.p with pc:=s.pc+1,steps:=s.steps+1 }:Pst)->Calls Tryz.prog 129 #[.pointer (some ⟨mb,0,none⟩),.pointer (some ⟨g,s.pc * 23,none⟩)] w1 fun r w'=>r=.returned (.bool (u2.addressed c).1)/\de w0 mb sb db w1 s1 w' (u2.addressed c).2.p:=fun w1 s1 m1 e1=>by
     rw [epc];exact AO m1 hc (e1.trans q2) ok2
    by_cases hdo:(u2.addressed c).1 != c.neg
    .rw [Oa hdo];refine Ir (b:=(u2.addressed c).1) (p2:=(u2.addressed c).2.p) (goal:=0) h hP.sc hcv' hv hc.is.c3 hc.is.c2 hf (by omega) (by omega) hen hA (.inl ⟨?_,fun w2 s2 m2 e2=>?_⟩)
     .cases h1:(u2.addressed c).1 <;> cases h2:c.neg <;> rw [h1,h2] at hdo <;> first | rfl | cases hdo
     .rw [epc];exact hD w2 s2 _ m2 e2 ok3
    .rw [N7 hdo];have hbn:(u2.addressed c).1=c.neg:=by
      cases h1:(u2.addressed c).1 <;> cases h2:c.neg <;> rw [h1,h2] at hdo <;> first | rfl | exact absurd rfl hdo
     by_cases h123:c.what=123
     .rw [Oa h123];exact Ir h hP.sc hcv' hv hc.is.c3 hc.is.c2 hf (by omega) (by omega) hen hA (.inr (.inl ⟨hbn,h123,hc.is.rest.c5,_,rfl,rfl⟩))
     .rw [N7 h123];exact Ir (goal:=0) h hP.sc hcv' hv hc.is.c3 hc.is.c2 hf (by omega) (by omega) hen hA (.inr (.inr ⟨hbn,h123,_,rfl,rfl⟩))
end
end Go.Proofs.YtiahkfoojjpaaaaGreatDoor
