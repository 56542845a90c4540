import Derived.Test.YtiahkfoojjpaaaaGreatDoorS45
set_option maxRecDepth 100000
set_option maxHeartbeats 16000000
set_option linter.all false
namespace Go.Proofs.YtiahkfoojjpaaaaGreatDoor
open Go.RowKit
structure Kps(u u':Ust):Prop where
 ok:UOk u'
 fb:u'.fb.length=u.fb.length
 rg:u'.rg.length=u.rg.length
 st:u'.steps=u.steps
 lf:u'.left=u.left
 nm:u'.number=u.number
 en:u'.ended=u.ended
 ah:u'.ahead=u.ahead
 br:u'.br.length<=u.br.length+1
 bw:u'.aR=u.aR\/u'.br=[]
theorem Kps.IE{u:Ust}(h:UOk u):Kps u u:=⟨h,rfl,rfl,rfl,rfl,rfl,rfl,rfl,by omega,.inl rfl⟩
section
variable {u u':Ust}{t:List UInt8}{q:Bool}
theorem UOk.write{i:Nat}(h:UOk u)(e:u.write i t=.ok u'):UOk u'/\u'={ u with count:=u'.count,fb:=u'.fb}/\u'.fb.length=u.fb.length:=by
 unfold Ust.write at e;split at e
 .cases e
 .rename_i hc;injection e with e;subst e;have h1:=h.ot;refine⟨⟨h.sp,h.hd,by show u.count+t.length+1<=_;omega,by show u.out.length<=u.count+t.length+1;omega,fun x hx=>?_,h.bt,h.bl,h.lf⟩,rfl,by simp⟩;show x.length<=u.count+t.length+1;obtain⟨j,hj⟩:=List.getElem?_of_mem hx;replace hj:(u.fb.modify i fun x=>x++t++[10])[j]? = some x:=hj;rw[Sk] at hj
  cases hu:u.fb[j]? with
  | none=>rw[hu] at hj;cases hj
  | some y=>
   rw[hu] at hj;have hy:=h.fb y (QM hu);by_cases hij:i=j
   .simp only[hij,if_true] at hj;injection hj with hj;subst hj;simp;omega
   .simp only[hij,if_false] at hj;injection hj with hj;subst hj;show y.length<=_;omega
theorem iy(h:UOk u)(e:u.tell t=.ok u'):Kps u u'/\u'.pc=u.pc/\u'.aR=u.aR:=by
 obtain⟨h1,h2⟩:=h.tell e;rw[h2];exact⟨⟨by rw[<-h2];exact h1,rfl,rfl,rfl,rfl,rfl,rfl,rfl,by show u.br.length<=_;omega,.inl rfl⟩,rfl,rfl⟩
theorem jD(h:UOk u)(e:u.brought=.ok u'):Kps u u'/\u'.pc=u.pc/\u'.br=[]:=by
 obtain⟨h1,h2⟩:=h.brought e;rw[h2];exact⟨⟨by rw[<-h2];exact h1,rfl,rfl,rfl,rfl,rfl,rfl,rfl,by show 0<=_;omega,.inr rfl⟩,rfl,rfl⟩
theorem qj(h:UOk u)(e:u.fj q=.ok u'):Kps u u'/\u'.pc=u.pc/\u'.br=[]:=by
 obtain⟨h1,h2⟩:=h.fj e;rw[h2];exact⟨⟨by rw[<-h2];exact h1,rfl,rfl,rfl,rfl,rfl,rfl,rfl,by show 0<=_;omega,.inr rfl⟩,rfl,rfl⟩
theorem Kps.CJ(h:Kps u u')(hb:u'.br=[])(wn:Wn):Kps u { u' with aR:=wn}:=⟨h.ok.aR wn,h.fb,h.rg,h.st,h.lf,h.nm,h.en,h.ah,h.br,.inr hb⟩
theorem ox(h:UOk u)(e:u.eZ q=.ok u'):Kps u u'/\u'.pc=u.pc/\u'.br=[]/\u'.aR=.bw:=by
 unfold Ust.eZ at e;split at e
 .cases e
 .rename_i u1 h1;injection e with e;subst e;obtain⟨k,hp,hb⟩:=qj h h1;exact⟨k.CJ hb _,hp,hb,rfl⟩
theorem fZ(h:UOk u)(e:u.aO=.ok u'):Kps u u'/\u'.pc=u.pc/\u'.br=[]:=by
 unfold Ust.aO at e;split at e
 .cases e
 .rename_i u1 h1;injection e with e;subst e;obtain⟨k,hp,hb⟩:=jD h h1;exact⟨k.CJ hb _,hp,hb⟩
theorem nF{st:Nat}(h:UOk u)(e:u.ic q st=.ok u'):Kps u u'/\u'.pc=u.pc:=by
 unfold Ust.ic at e;split at e
 .cases e
 .rename_i u1 h1;injection e with e;subst e;obtain⟨k,hp,hb,hw⟩:=ox h h1;exact⟨⟨⟨k.ok.sp,k.ok.hd,k.ok.ct,k.ok.ot,k.ok.fb,k.ok.bt,k.ok.bl,k.ok.lf⟩,k.fb,k.rg,k.st,k.lf,k.nm,k.en,k.ah,k.br,.inr hb⟩,hp⟩
theorem Kps.trans{u1 u2 u3:Ust}(h:Kps u1 u2)(k:Kps u2 u3)(hb:u2.br.length<=u1.br.length)(hw:u2.aR=u1.aR):Kps u1 u3:=
 ⟨k.ok,k.fb.trans h.fb,k.rg.trans h.rg,k.st.trans h.st,k.lf.trans h.lf,k.nm.trans h.nm,k.en.trans h.en,k.ah.trans h.ah,by have:=k.br;omega,by rw[<-hw];exact k.bw⟩
theorem qk(h:UOk u){sp:List UInt8}(hs:sp.length<=4000):Kps u { u with space:=sp}:=⟨⟨hs,h.hd,h.ct,h.ot,h.fb,h.bt,h.bl,h.lf⟩,rfl,rfl,rfl,rfl,rfl,rfl,rfl,by show u.br.length<=_;omega,.inl rfl⟩
theorem DK(h:UOk u){sp:List UInt8}(hs:sp.length<=4000):Kps u { u with held:=sp}:=⟨⟨h.sp,hs,h.ct,h.ot,h.fb,h.bt,h.bl,h.lf⟩,rfl,rfl,rfl,rfl,rfl,rfl,rfl,by show u.br.length<=_;omega,.inl rfl⟩
theorem Bo{c:aH}(h:UOk u)(e:u.replace c=.ok u'):Kps u u'/\u'.pc=u.pc:=by
 rw[ni] at e
 cases hr:oC c u.space with
 | none=>
  rw[hr] at e;injection e with e;subst e;exact⟨Kps.IE h,rfl⟩
 | some t=>
  rw[hr] at e;dsimp only at e;split at e
  .cases e
  .rename_i hl;have k0:Kps u { u with space:=t,gU:=true}:=⟨⟨by show t.length<=4000;omega,h.hd,h.ct,h.ot,h.fb,h.bt,h.bl,h.lf⟩,rfl,rfl,rfl,rfl,rfl,rfl,rfl,by show u.br.length<=_;omega,.inl rfl⟩;have fin:∀u1,Kps u u1->u1.pc=u.pc->u1.br.length<=u.br.length->u1.aR=u.aR->jd c u1=.ok u'->Kps u u'/\u'.pc=u.pc:=fun u1 k1 hp hb hw e=>by
    unfold jd at e;split at e
    .injection e with e;subst e;exact⟨k1,hp⟩
    .obtain⟨q1,q2,q3⟩:=k1.ok.write e;have k2:Kps u1 u':=by
      rw[q2];exact⟨by rw[<-q2];exact q1,q3,rfl,rfl,rfl,rfl,rfl,rfl,by show u1.br.length<=_;omega,.inl rfl⟩
     refine⟨k1.trans k2 hb hw,?_⟩;rw[q2];exact hp
   split at e
   .cases hT:({ u with space:=t,gU:=true}:Ust).tell t with
    | error q=>rw[hT] at e;cases e
    | ok u1=>
     rw[hT] at e;obtain⟨k1,hp1,hw1⟩:=iy k0.ok hT;have hb1:u1.br.length<=u.br.length:=by
      obtain⟨_,q2⟩:=k0.ok.tell hT;rw[q2];exact QD _
     exact fin u1 (k0.trans k1 (QD _) rfl) hp1 hb1 hw1 e
   .exact fin _ k0 rfl (QD _) rfl e
theorem ql{a b:List UInt8}{f:List UInt8->Ust}(e:Ust.lu a b f u=.ok u'):∃t,t.length<=4000/\u'=f t:=by
 unfold Ust.lu at e;split at e
 .cases e
 .rename_i hl;injection e with e;exact⟨_,by omega,e.symm⟩
theorem NR{c:aH}{n:Nat}(h:UOk u)(hb:u.br.length<=2000)(ht:c.text.plain.length<=2000)(hg:c.goal<=n)(hp:u.pc<=n)(e:u.lB q c=.ok u'):Kps u u'/\u'.pc<=n:=by
 have pcs:∀{x:Ust},x.pc=u.pc->x.pc<=n:=fun e=>by rw[e];exact hp
 unfold Ust.lB at e;by_cases x123:c.what=123
 .rw[QB x123] at e;injection e with e;subst e;exact⟨Kps.IE h,hp⟩
 rw[Qw x123] at e;by_cases x98:c.what=98
 .rw[QB x98] at e;injection e with e;subst e;have k:=Kps.IE h;exact⟨⟨⟨h.sp,h.hd,h.ct,h.ot,h.fb,h.bt,h.bl,h.lf⟩,k.fb,k.rg,k.st,k.lf,k.nm,k.en,k.ah,k.br,.inl rfl⟩,hg⟩
 rw[Qw x98] at e;by_cases x116:c.what=116
 .rw[QB x116] at e;injection e with e;subst e;split
  .have k:=Kps.IE h;exact⟨⟨⟨h.sp,h.hd,h.ct,h.ot,h.fb,h.bt,h.bl,h.lf⟩,k.fb,k.rg,k.st,k.lf,k.nm,k.en,k.ah,k.br,.inl rfl⟩,hg⟩
  .exact⟨Kps.IE h,hp⟩
 rw[Qw x116] at e;by_cases x97:c.what=97
 .rw[QB x97] at e;injection e with e;subst e;have k:=Kps.IE h;refine⟨⟨⟨h.sp,h.hd,h.ct,h.ot,h.fb,fun t ht'=>?_,by show(u.br++[c.text.plain]).length<=2001;simp;omega,h.lf⟩,k.fb,k.rg,k.st,k.lf,k.nm,k.en,k.ah,by show(u.br++[c.text.plain]).length<=_;simp,.inl rfl⟩,hp⟩;replace ht':t∈u.br++[c.text.plain]:=ht';rcases List.mem_append.1 ht' with q|q
  .exact h.bt t q
  .rw[List.mem_singleton.1 q];exact ht
 rw[Qw x97] at e;by_cases x105:c.what=105
 .rw[QB x105] at e;obtain⟨k,hp',_⟩:=iy h e;exact⟨k,pcs hp'⟩
 rw[Qw x105] at e;by_cases x99:c.what=99
 .rw[QB x99] at e;split at e
  .cases e
  .rename_i u1 h1;split at h1
   .injection h1 with h1;subst h1;obtain⟨k,hp',_⟩:=fZ h e;exact⟨k,pcs hp'⟩
   .obtain⟨k1,hp1,hw1⟩:=iy h h1;have hb1:u1.br.length<=u.br.length:=by
     obtain⟨_,q2⟩:=h.tell h1;rw[q2];exact QD _
    obtain⟨k2,hp2,_⟩:=fZ k1.ok e;exact⟨k1.trans k2 hb1 hw1,pcs (hp2.trans hp1)⟩
 rw[Qw x99] at e;by_cases x115:c.what=115
 .rw[QB x115] at e;obtain⟨k,hp'⟩:=Bo h e;exact⟨k,pcs hp'⟩
 rw[Qw x115] at e;by_cases x121:c.what=121
 .rw[QB x121] at e;injection e with e;subst e;exact⟨qk h (by rw[Q7];exact h.sp),hp⟩
 rw[Qw x121] at e;by_cases x100:c.what=100
 .rw[QB x100] at e;obtain⟨k,hp',_⟩:=fZ h e;exact⟨k,pcs hp'⟩
 rw[Qw x100] at e;by_cases x68:c.what=68
 .rw[QB x68] at e;split at e
  .obtain⟨k,hp',_⟩:=fZ h e;exact⟨k,pcs hp'⟩
  .rename_i rest hrest;split at e
   .cases e
   .rename_i u1 h1;injection e with e;subst e;obtain⟨k,hp',hbr⟩:=jD h h1;have hr:rest.length<=4000:=by
     have h1:=oT u.space;have h2:=h.sp;rw[hrest] at h1;simp at h1;omega
    exact⟨⟨⟨hr,k.ok.hd,k.ok.ct,k.ok.ot,k.ok.fb,k.ok.bt,k.ok.bl,k.ok.lf⟩,k.fb,k.rg,k.st,k.lf,k.nm,k.en,k.ah,k.br,.inr hbr⟩,QG _⟩
 rw[Qw x68] at e;by_cases x103:c.what=103
 .rw[QB x103] at e;injection e with e;subst e;exact⟨qk h h.hd,hp⟩
 rw[Qw x103] at e;by_cases x71:c.what=71
 .rw[QB x71] at e;obtain⟨t,htl,rfl⟩:=ql e;exact⟨qk h htl,hp⟩
 rw[Qw x71] at e;by_cases x104:c.what=104
 .rw[QB x104] at e;injection e with e;subst e;exact⟨DK h h.sp,hp⟩
 rw[Qw x104] at e;by_cases x72:c.what=72
 .rw[QB x72] at e;obtain⟨t,htl,rfl⟩:=ql e;exact⟨DK h htl,hp⟩
 rw[Qw x72] at e;by_cases x120:c.what=120
 .rw[QB x120] at e;injection e with e;subst e;have k:=Kps.IE h;exact⟨⟨⟨h.hd,h.sp,h.ct,h.ot,h.fb,h.bt,h.bl,h.lf⟩,k.fb,k.rg,k.st,k.lf,k.nm,k.en,k.ah,k.br,.inl rfl⟩,hp⟩
 rw[Qw x120] at e;by_cases x110:c.what=110
 .rw[QB x110] at e;split at e
  .obtain⟨k,hp'⟩:=nF h e;exact⟨k,pcs hp'⟩
  .split at e
   .cases e
   .rename_i u1 h1;injection e with e;subst e;obtain⟨k,hp',hbr⟩:=qj h h1;exact⟨k.CJ hbr _,pcs hp'⟩
 rw[Qw x110] at e;by_cases x78:c.what=78
 .rw[QB x78] at e;split at e
  .obtain⟨k,hp'⟩:=nF h e;exact⟨k,pcs hp'⟩
  .split at e
   .cases e
   .rename_i u1 h1;injection e with e;subst e;obtain⟨k,hp',hbr⟩:=jD h h1;exact⟨k.CJ hbr _,pcs hp'⟩
 rw[Qw x78] at e;by_cases x112:c.what=112
 .rw[QB x112] at e;obtain⟨k,hp',_⟩:=iy h e;exact⟨k,pcs hp'⟩
 rw[Qw x112] at e;by_cases x80:c.what=80
 .rw[QB x80] at e;obtain⟨k,hp',_⟩:=iy h e;exact⟨k,pcs hp'⟩
 rw[Qw x80] at e;by_cases x108:c.what=108
 .rw[QB x108] at e;obtain⟨k,hp',_⟩:=iy h e;exact⟨k,pcs hp'⟩
 rw[Qw x108] at e;by_cases x61:c.what=61
 .rw[QB x61] at e;obtain⟨k,hp',_⟩:=iy h e;exact⟨k,pcs hp'⟩
 rw[Qw x61] at e;by_cases x113:c.what=113
 .rw[QB x113] at e;obtain⟨k,hp'⟩:=nF h e;exact⟨k,pcs hp'⟩
 rw[Qw x113] at e;by_cases x119:c.what=119
 .rw[QB x119] at e;obtain⟨q1,q2,q3⟩:=h.write e;rw[q2];exact⟨⟨by rw[<-q2];exact q1,q3,rfl,rfl,rfl,rfl,rfl,rfl,by show u.br.length<=_;omega,.inl rfl⟩,hp⟩
 rw[Qw x119] at e;injection e with e;subst e;exact⟨Kps.IE h,hp⟩
end
section
variable {w0 w w' w2:World}{mb sb db lo hi:Nat}{s s':Mst}{u:Ust}{σ:Sst}{S:fN}
theorem look_et(h:Mac w0 w mb sb db s)(hs:Scr lo hi w0 sb 0 σ)(hp:s.p=u.p)(hu:UOk u)(hpc:s.pc=σ.cs.length):Calls Tryz.prog 83 #[.pointer (some ⟨mb,0,none⟩)] w (dJ w0 mb sb db w s (u.eZ σ.quiet)):=by
 have TE:∀n,Calls Tryz.prog 127 #[.pointer (some ⟨mb,0,none⟩)] (w.drewN n) (dJ w0 mb sb db (w.drewN n) s (u.eZ σ.quiet)):=fun n=>tE (h.aj (Kp.drewN [] w n)) hs hp hu;obtain⟨R,hR⟩:∃R,R=u.eZ σ.quiet:=⟨_,rfl⟩;rw[<-hR] at TE ⊢;have HT:=hid TE;clear TE hR;have hsw:=hs.aj h.r.kp (fun _ e=>by cases e);obtain⟨A,c,e,_,_⟩:=aZ hsw.o4;have c1:=hsw.c1;rw[e] at c1;have c0:=h.b.at_ 0 _ rfl;have c13:=h.b.at_ 13 _ rfl;rw[hpc] at c13;go_enter Tryz.func83,Tryz.ntmps83
 go_wp2_with fail;go_quiet (fail);go_wp2_with fail;refine(HT.out nq).mono ?_;intro r w1 hr;replace hr:=dJ.pre (Kp.drewN [] w nq) hr
 cases R with
 | error q=>
  obtain⟨E,u1⟩:=q;obtain⟨rfl,g1⟩:=hr;go_wp2_with fail;exact⟨rfl,rfl,g1⟩
 | ok u1=>
  obtain⟨rfl,g1⟩:=hr;go_wp2_with fail;refine bodyPost_ret (results_none rfl _ _ _) rfl ?_;exact⟨rfl,g1⟩
theorem JG{x i f g cap goal:Nat}{nt b:Bool}{c:List Value}{p2:Pst}{R:RU}(h:Mac w0 w mb sb db s)(hs:Scr lo hi w0 sb 0 σ)(hc:σ.cs[s.pc]? = some c)(hv:σ.vc=.slice (some ⟨g,0,none⟩) σ.cs.length cap)(hx:c[3]? = some (.int .u8 x))(hnt:c[2]? = some (.bool nt))(ht:Instr.findNow (.int .u8) (.int .u8 x) (uj 0 iZ) 0=some (some (i,.func (.func f) #[] #[])))(hst:s.steps<2000)(hpc:s.pc<2000)(hen:Enters f)(hA:∀w1 s1,Mac w0 w1 mb sb db s1->s1.p=({ s.p with pc:=s.pc+1,steps:=s.steps+1}:Pst)->Calls Tryz.prog 129 #[.pointer (some ⟨mb,0,none⟩),.pointer (some ⟨g,s.pc*23,none⟩)] w1 fun r w'=>r=.returned (.bool b)/\di w0 mb sb db w1 s1 w' p2)(hB:((b = !nt)/\∀w2 s2,Mac w0 w2 mb sb db s2->s2.p=p2->Calls Tryz.prog f #[.pointer (some ⟨mb,0,none⟩),.pointer (some ⟨g,s.pc*23,none⟩)] w2 (dJ w0 mb sb db w2 s2 R))\/(b=nt/\x=123/\c[5]? = some (.int .i64 goal)/\∃u,R=.ok u/\u.p=p2.goto goal)\/(b=nt/\x≠123/\∃u,R=.ok u/\u.p=p2)):Calls Tryz.prog 83 #[.pointer (some ⟨mb,0,none⟩)] w (dJ w0 mb sb db w s R):=by
 have hsw:=hs.aj h.r.kp (fun _ e=>by cases e);obtain⟨g',cap',e,hcell⟩:=hsw.cmd hc;obtain rfl:g'=g:=by rw[hv] at e;injection e with e _ _;injection e with e;injection e with e;exact e.symm
 have hlt:=(List.getElem?_eq_some_iff.1 hc).1;have c1:=hsw.c1;rw[hv] at c1;have c0:=h.b.at_ 0 _ rfl;have c13:=h.b.at_ 13 _ rfl;have hne:((s.pc:Int)==(σ.cs.length:Int))=false:=by rw[Qz];omega
 have HA:=hid hA;have HB:=hid hB;have HS:=hid hs;have HC:=hid hcell;clear hA hB hs hcell e;go_enter Tryz.func83,Tryz.ntmps83
 go_wp2_with fail;go_quiet (fail);have ha:=h.aj (Kp.drewN [] w nq);have ga:Gr mb db w s.r (w.drewN nq) s.r:=Gr.dj (Kp.drewN [] w nq) (fun _ e=>by cases e);have hca:∀j u,c[j]? = some u->(w.drewN nq).cell? ⟨g',s.pc*23+j,none⟩=some u:=HC.out;have c1a:(w.drewN nq).cell? ⟨sb,0+1,none⟩=some (.slice (some ⟨g',0,none⟩) σ.cs.length cap):=c1;clear c0 c1 c13 hsw HC;obtain⟨wa,hwa⟩:∃wa,wa=w.drewN nq:=⟨_,rfl⟩;rw[<-hwa] at ha ga hca c1a ⊢;clear hwa;have HCA:=hid hca;clear hca;have c0:=ha.b.at_ 0 _ rfl;have c13:=ha.b.at_ 13 _ rfl;have f13:=ha.b.free 13;go_wp2_with fail;go_quiet (fail);obtain⟨wb,hwb⟩:∃wb,wb=wa.drewN nq:=⟨_,rfl⟩;have hb':=ha.aj (Kp.drewN [] wa nq);have gb:=ga.trans (Gr.dj (r:=s.r) (Kp.drewN [] wa nq) (fun _ e=>by cases e));have hcb:∀j u,c[j]? = some u->(wa.drewN nq).cell? ⟨g',s.pc*23+j,none⟩=some u:=HCA.out;rw[<-hwb] at hb' gb hcb ⊢;clear hwb c0 c13 f13 c1a HCA ha ga h;have c13:=hb'.b.at_ 13 _ rfl
 have f13:=hb'.b.free 13;have HCB:=hid hcb;clear hcb;obtain⟨n1,hn1⟩:∃n1:Nat,n1=s.pc+1:=⟨_,rfl⟩;have wr:=aQ s.pc n1 hn1 (by omega);have m1:=hb'.set (s':={ s with pc:=n1}) 13 (.int .i64 (n1:Int)) (by omega) rfl rfl;have g1:=gb.trans (Gr.set (mb:=mb) (db:=db) wb s.r 13 (.int .i64 (n1:Int)));have hc1:∀j u,c[j]? = some u->(wb.setCell ⟨mb,13,none⟩ (.int .i64 (n1:Int))).cell? ⟨g',s.pc*23+j,none⟩=some u:=((HS.out.aj m1.r.kp (fun _ e=>by cases e)).cmd hc).elim fun g2 q=>q.elim fun cap2 q=>by
  obtain⟨e,q⟩:=q;obtain rfl:g2=g':=by rw[hv] at e;injection e with e _ _;injection e with e;injection e with e;exact e.symm
  exact q
 have HN1:=hid hn1;have M1:=hid m1;have G1:=hid g1;have HC1:=hid hc1;clear hn1 m1 g1 hc1 gb hb';go_wp2_with fail;obtain⟨w1,hw1⟩:∃w1,w1=wb.setCell ⟨mb,13,none⟩ (.int .i64 (n1:Int)):=⟨_,rfl⟩;rw[<-hw1] at M1 G1 HC1 ⊢;clear hw1 c13 f13 HCB wr;have e1:=M1.out.b.at_ 1 _ rfl;have k3:=HC1.out 3 _ hx;have hlk:∀m,(Instr.lookup 95 (.map (some db)) (.int .u8 x) true).run Tryz.prog (w1.drewN m)=.ok (.tuple #[.func (.func f) #[] #[],.bool true]) (w1.drewN m):=fun m=>
  gS Tryz.underlying95 Tryz.underlying5 (((Kp.drewN [] w1 m).block _ (M1.out.r.bk.hi 1 _ rfl) (by simp)).trans M1.out.r.md) ht
 go_quiet (fail);have m2:=M1.out.aj (Kp.drewN [] w1 nq);have g2:=G1.out.trans (Gr.dj (r:=s.r) (Kp.drewN [] w1 nq) (fun _ e=>by cases e));have h2:∀j u,c[j]? = some u->(w1.drewN nq).cell? ⟨g',s.pc*23+j,none⟩=some u:=HC1.out;obtain⟨wd,hwd⟩:∃wd,wd=w1.drewN nq:=⟨_,rfl⟩;rw[<-hwd] at m2 g2 h2 ⊢;clear hwd M1 G1 HC1 e1 k3 hlk;have c14:=m2.b.at_ 14 _ rfl;have f14:=m2.b.free 14;obtain⟨n2,hn2⟩:∃n2:Nat,n2=s.steps+1:=⟨_,rfl⟩;have wr:=aQ s.steps n2 hn2 (by omega);have q2:¬2000<n2:=by omega
 have m3:=m2.set (s':={ s with pc:=n1,steps:=n2}) 14 (.int .i64 (n2:Int)) (by omega) rfl rfl;have g3:=g2.trans (Gr.set (mb:=mb) (db:=db) wd s.r 14 (.int .i64 (n2:Int)));have hsc:=HS.out.aj m3.r.kp (fun _ e=>by cases e);have key:∀wx,Kp [] w0 wx->∀j u,c[j]? = some u->wx.cell? ⟨g',s.pc*23+j,none⟩=some u:=fun wx kx=>((HS.out.aj kx (fun _ e=>by cases e)).cmd hc).elim fun g2 q=>q.elim fun cap2 q=>by
  obtain⟨e,q⟩:=q;obtain rfl:g2=g':=by rw[hv] at e;injection e with e _ _;injection e with e;injection e with e;exact e.symm
  exact q
 have KEY:=hid key;have M3:=hid m3;have G3:=hid g3;have HN2:=hid hn2;clear key hsc m2 g2 h2 hn2;go_wp2_with fail;obtain⟨w3,hw3⟩:∃w3,w3=wd.setCell ⟨mb,14,none⟩ (.int .i64 (n2:Int)):=⟨_,rfl⟩;rw[<-hw3] at M3 G3 ⊢;clear hw3 c14 f14 m3 g3 wr;have HAA:=hid (HA.out (w3.drew) { s with pc:=n1,steps:=n2} (M3.out.aj (Kp.drew [] w3)) (by rw[HN1.out,HN2.out];rfl));have k2:=KEY.out _ M3.out.r.kp 2 _ hnt;unfold Enters at hen;go_cut [66] from 67 (fun v wx=>v=.bool (b != nt)/\∃s4,s4.p=p2/\Mac w0 wx mb sb db s4/\Gr mb db w s.r wx s4.r)
 case first=>
  go_region_with (go_at_call 129;refine HAA.out.mono ?_;rintro r w4 ⟨rfl,s4,e4,m4,g4⟩;have k2':=KEY.out _ m4.r.kp 2 _ hnt)
  all_goals
   go_wp2_with fail;go_meet
   case rel=>exact⟨by cases nt<;>cases b<;>rfl,s4,e4,m4,G3.out.trans ((Gr.dj (r:=s.r) (Kp.drew [] w3) (fun _ e=>by cases e)).trans g4)⟩
 case rest=>
 obtain⟨rfl,s4,e4,m4,g4⟩:=hcut;have k3:=KEY.out _ m4.r.kp 3 _ hx;rcases HB.out with⟨hb,hD⟩|⟨hb,hx1,h5,u1,rfl,hu1⟩|⟨hb,hx1,u1,rfl,hu1⟩
 .rw[show(b != nt)=true by rw[hb];cases nt<;>rfl];have HD:=hid hD;clear hD hb;go_wp2_with fail;refine(HD.out _ s4 m4 e4).mono ?_;intro r w5 hr;replace hr:=dJ.after g4 hr
  cases R with
  | error q=>
   obtain⟨E,u1⟩:=q;obtain⟨rfl,g1⟩:=hr;go_wp2_with fail;exact⟨rfl,rfl,g1⟩
  | ok u1=>
   obtain⟨rfl,g1⟩:=hr;go_wp2_with fail;go_end0;exact⟨rfl,g1⟩
 .rw[show(b != nt)=false by rw[hb];cases nt<;>rfl];have k5:=KEY.out _ m4.r.kp 5 _ h5;have c13:=m4.b.at_ 13 _ rfl;have f13:=m4.b.free 13;have q3:((x:Int)==123)=true:=by rw[hx1];rfl
  have m5:=m4.set (s':={ s4 with pc:=goal}) 13 (.int .i64 goal) (by omega) rfl rfl;have g5:=g4.trans (Gr.set (mb:=mb) (db:=db) _ s4.r 13 (.int .i64 (goal:Int)));have G5:=hid (And.intro m5 g5);have HU:=hid hu1;clear m5 g5 hx1 hu1 hb;go_wp2_with fail;go_end0;exact⟨rfl,{ s4 with pc:=goal},by show s4.p.goto goal=_;rw[e4,HU.out],G5.out.1,G5.out.2⟩
 .rw[show(b != nt)=false by rw[hb];cases nt<;>rfl];have q3:((x:Int)==123)=false:=by rw[Qz];omega
  have HU:=hid hu1;clear hu1 hb;go_wp2_with fail;go_end0;exact⟨rfl,s4,by rw[e4,HU.out],m4,g4⟩
theorem F6{x i f g cap:Nat}{c:List Value}{p3:Pst}(h:Mac w0 w mb sb db s)(hs:Scr lo hi w0 sb 0 σ)(hc:σ.cs[s.pc]? = some c)(hv:σ.vc=.slice (some ⟨g,0,none⟩) σ.cs.length cap)(hx:c[3]? = some (.int .u8 x))(ht:Instr.findNow (.int .u8) (.int .u8 x) (uj 0 iZ) 0=some (some (i,.func (.func f) #[] #[])))(hst:2000<=s.steps)(hst2:s.steps<=2000)(hpc:s.pc<2000)(hp3:({ s.p with pc:=s.pc+1,steps:=s.steps+1}:Pst)=p3):Calls Tryz.prog 83 #[.pointer (some ⟨mb,0,none⟩)] w fun r w'=>r=iG 7 0/\di w0 mb sb db w s w' p3:=by
 have hsw:=hs.aj h.r.kp (fun _ e=>by cases e);obtain⟨g',cap',e,hcell⟩:=hsw.cmd hc;obtain rfl:g'=g:=by rw[hv] at e;injection e with e _ _;injection e with e;injection e with e;exact e.symm
 have hlt:=(List.getElem?_eq_some_iff.1 hc).1;have c1:=hsw.c1;rw[hv] at c1;have c0:=h.b.at_ 0 _ rfl;have c13:=h.b.at_ 13 _ rfl;have hne:((s.pc:Int)==(σ.cs.length:Int))=false:=by rw[Qz];omega
 have HS:=hid hs;have HC:=hid hcell;clear hs hcell e;go_enter Tryz.func83,Tryz.ntmps83
 go_wp2_with fail;go_quiet (fail);have ha:=h.aj (Kp.drewN [] w nq);have ga:Gr mb db w s.r (w.drewN nq) s.r:=Gr.dj (Kp.drewN [] w nq) (fun _ e=>by cases e);have hca:∀j u,c[j]? = some u->(w.drewN nq).cell? ⟨g',s.pc*23+j,none⟩=some u:=HC.out;have c1a:(w.drewN nq).cell? ⟨sb,0+1,none⟩=some (.slice (some ⟨g',0,none⟩) σ.cs.length cap):=c1;clear c0 c1 c13 hsw HC;obtain⟨wa,hwa⟩:∃wa,wa=w.drewN nq:=⟨_,rfl⟩;rw[<-hwa] at ha ga hca c1a ⊢;clear hwa;have HCA:=hid hca;clear hca;have c0:=ha.b.at_ 0 _ rfl;have c13:=ha.b.at_ 13 _ rfl;have f13:=ha.b.free 13;go_wp2_with fail;go_quiet (fail);obtain⟨wb,hwb⟩:∃wb,wb=wa.drewN nq:=⟨_,rfl⟩;have hb':=ha.aj (Kp.drewN [] wa nq);have gb:=ga.trans (Gr.dj (r:=s.r) (Kp.drewN [] wa nq) (fun _ e=>by cases e));have hcb:∀j u,c[j]? = some u->(wa.drewN nq).cell? ⟨g',s.pc*23+j,none⟩=some u:=HCA.out;rw[<-hwb] at hb' gb hcb ⊢;clear hwb c0 c13 f13 c1a HCA ha ga h;have c13:=hb'.b.at_ 13 _ rfl
 have f13:=hb'.b.free 13;have HCB:=hid hcb;clear hcb;obtain⟨n1,hn1⟩:∃n1:Nat,n1=s.pc+1:=⟨_,rfl⟩;have wr:=aQ s.pc n1 hn1 (by omega);have m1:=hb'.set (s':={ s with pc:=n1}) 13 (.int .i64 (n1:Int)) (by omega) rfl rfl;have g1:=gb.trans (Gr.set (mb:=mb) (db:=db) wb s.r 13 (.int .i64 (n1:Int)));have hc1:∀j u,c[j]? = some u->(wb.setCell ⟨mb,13,none⟩ (.int .i64 (n1:Int))).cell? ⟨g',s.pc*23+j,none⟩=some u:=((HS.out.aj m1.r.kp (fun _ e=>by cases e)).cmd hc).elim fun g2 q=>q.elim fun cap2 q=>by
  obtain⟨e,q⟩:=q;obtain rfl:g2=g':=by rw[hv] at e;injection e with e _ _;injection e with e;injection e with e;exact e.symm
  exact q
 have HN1:=hid hn1;have M1:=hid m1;have G1:=hid g1;have HC1:=hid hc1;clear hn1 m1 g1 hc1 gb hb';go_wp2_with fail;obtain⟨w1,hw1⟩:∃w1,w1=wb.setCell ⟨mb,13,none⟩ (.int .i64 (n1:Int)):=⟨_,rfl⟩;rw[<-hw1] at M1 G1 HC1 ⊢;clear hw1 c13 f13 HCB wr;have e1:=M1.out.b.at_ 1 _ rfl;have k3:=HC1.out 3 _ hx;have hlk:∀m,(Instr.lookup 95 (.map (some db)) (.int .u8 x) true).run Tryz.prog (w1.drewN m)=.ok (.tuple #[.func (.func f) #[] #[],.bool true]) (w1.drewN m):=fun m=>
  gS Tryz.underlying95 Tryz.underlying5 (((Kp.drewN [] w1 m).block _ (M1.out.r.bk.hi 1 _ rfl) (by simp)).trans M1.out.r.md) ht
 go_quiet (fail);have m2:=M1.out.aj (Kp.drewN [] w1 nq);have g2:=G1.out.trans (Gr.dj (r:=s.r) (Kp.drewN [] w1 nq) (fun _ e=>by cases e));have h2:∀j u,c[j]? = some u->(w1.drewN nq).cell? ⟨g',s.pc*23+j,none⟩=some u:=HC1.out;obtain⟨wd,hwd⟩:∃wd,wd=w1.drewN nq:=⟨_,rfl⟩;rw[<-hwd] at m2 g2 h2 ⊢;clear hwd M1 G1 HC1 e1 k3 hlk;have c14:=m2.b.at_ 14 _ rfl;have f14:=m2.b.free 14;obtain⟨n2,hn2⟩:∃n2:Nat,n2=s.steps+1:=⟨_,rfl⟩;have wr:=aQ s.steps n2 hn2 (by omega);have q2:2000<n2:=by omega
 have m3:=m2.set (s':={ s with pc:=n1,steps:=n2}) 14 (.int .i64 (n2:Int)) (by omega) rfl rfl;have g3:=g2.trans (Gr.set (mb:=mb) (db:=db) wd s.r 14 (.int .i64 (n2:Int)));have hsc:=HS.out.aj m3.r.kp (fun _ e=>by cases e);have key:∀wx,Kp [] w0 wx->∀j u,c[j]? = some u->wx.cell? ⟨g',s.pc*23+j,none⟩=some u:=fun wx kx=>((HS.out.aj kx (fun _ e=>by cases e)).cmd hc).elim fun g2 q=>q.elim fun cap2 q=>by
  obtain⟨e,q⟩:=q;obtain rfl:g2=g':=by rw[hv] at e;injection e with e _ _;injection e with e;injection e with e;exact e.symm
  exact q
 have KEY:=hid key;have M3:=hid m3;have G3:=hid g3;have HN2:=hid hn2;clear key hsc m2 g2 h2 hn2;go_wp2_with fail;obtain⟨w3,hw3⟩:∃w3,w3=wd.setCell ⟨mb,14,none⟩ (.int .i64 (n2:Int)):=⟨_,rfl⟩;rw[<-hw3] at M3 G3 ⊢;clear hw3 c14 f14 m3 g3 wr;refine(oS 7 _).mono ?_;rintro r w5 ⟨rfl,rfl⟩;go_wp2_with fail;refine⟨rfl,rfl,_,?_,M3.out,G3.out⟩;rw[<-hp3,HN1.out,HN2.out]
 rfl
structure xQ(S:fN)(u:Ust):Prop where
 ok:SOk S u
 bs:u.br.length<=u.steps
 bw:u.aR≠.no->u.br=[]
theorem BR:∀x,(x=125\/x=58)->iZ.find? (fun q=>x==q.1)=none:=by
 rintro x (rfl|rfl)<;>rfl
theorem deed_t{ca co:Nat}{cv:List Value}{c:aH}(hP:Prg w0 lo hi sb σ S)(hc:lO w0 σ S ca co cv c)(hx:¬(c.what=125\/c.what=58)):fV w0 mb sb db S ca co c:=by
 have hm:c.what∈iK:=by simpa using hc.ok.wh
 simp only[iK,Rh,RH,or_false] at hm;rcases hm with h|h|h|h|h|h|h|h|h|h|h|h|h|h|h|h|h|h|h|h|h|h|h|h|h
 .exact Ow hc h
 .exact absurd (.inl h) hx
 .exact absurd (.inr h) hx
 .exact deed_98 hc h
 .exact OA hc h
 .exact deed_97 hc h
 .exact OI hc h
 .exact deed_99 hc h
 .exact OB hc h
 .exact Ox hc h
 .exact OC hP hc h
 .exact Oz hc h
 .exact OL hc h
 .exact deed_68 hc h
 .exact OK hc h
 .exact deed_71 hc h
 .exact OJ hc h
 .exact deed_72 hc h
 .exact Oy hc h
 .exact OG hP hc h
 .exact deed_78 hP hc h
 .exact OE hc h
 .exact deed_80 hc h
 .exact OH hc h
 .exact deed_61 hP hc h
theorem oA(u:Ust)(c:aH):∃rg,(u.addressed c).2={ u with rg:=rg}/\rg.length=u.rg.length:=by
 unfold Ust.addressed;split
 .exact⟨u.rg,rfl,rfl⟩
 .exact⟨u.rg,rfl,rfl⟩
 .unfold Ust.fL;split
  .exact⟨_,rfl,by simp⟩
  .split
   .exact⟨_,rfl,by simp⟩
   .exact⟨_,rfl,by simp⟩
theorem look_t(hP:Prg w0 lo hi sb σ S)(h:Mac w0 w mb sb db s)(hp:s.p=u.p)(hu:xQ S u):Calls Tryz.prog 83 #[.pointer (some ⟨mb,0,none⟩)] w (dJ w0 mb sb db w s (u.look S)):=by
 have epc:s.pc=u.pc:=congrArg Pst.pc hp;have est:s.steps=u.steps:=congrArg Pst.steps hp;have hlen:=hP.ok.cl;unfold Ust.look
 cases hcm:S.aD[u.pc]? with
 | none=>
  have hpc:u.pc=S.aD.length:=by
   have:=List.getElem?_eq_none_iff.1 hcm;have:=hu.ok.pc;omega
  rw[<-hP.pg.qt];exact look_et h hP.sc hp hu.ok.ok (by rw[epc,hpc,hP.pg.len])
 | some c=>
  have hlt:=(List.getElem?_eq_some_iff.1 hcm).1;obtain⟨g,cap,cv,hv,hcv,hc⟩:=hP.cmd hcm;have hcv':σ.cs[s.pc]? = some cv:=by rw[epc];exact hcv
  dsimp only;by_cases hpl:c.what=125\/c.what=58
  .rw[QB hpl];refine(F7 h hP.sc hcv' hv hc.is.c3 (pH _ _ 0 0 (BR _ hpl)) (by omega)).mono ?_;rintro r w1 ⟨rfl,g1⟩;refine⟨rfl,g1.oE ?_⟩;unfold Pst.goto;rw[hp,epc]
   rfl
  .rw[Qw hpl];obtain⟨f,i,hf,hen,hD⟩:=deed_t (mb:=mb) (db:=db) hP hc hpl;by_cases hst:2000<u.steps+1
   .rw[QB hst];have hs2:=hu.ok.st;refine(F6 (p3:=({ u with pc:=u.pc+1,steps:=u.steps+1}:Ust).p) h hP.sc hcv' hv hc.is.c3 hf (by omega) (by omega) (by omega) ?_).mono ?_
    .rw[hp,epc,est]
     rfl
    .rintro r w1 ⟨rfl,g1⟩;exact⟨rfl,g1⟩
   .rw[Qw hst];obtain⟨u2,hu2⟩:∃u2:Ust,u2={ u with pc:=u.pc+1,steps:=u.steps+1}:=⟨_,rfl⟩;rw[<-hu2];have q2:({ s.p with pc:=s.pc+1,steps:=s.steps+1}:Pst)=u2.p:=by rw[hp,epc,est,hu2];rfl
    have hk:=hu.ok.ok;have ok2:SOk S u2:=by
     rw[hu2];exact⟨⟨hk.sp,hk.hd,hk.ct,hk.ot,hk.fb,hk.bt,hk.bl,hk.lf⟩,hu.ok.fb,hu.ok.rg,by show u.pc+1<=_;omega,by show u.steps+1<=2000;omega⟩
    obtain⟨rg,har,hrl⟩:=oA u2 c;have ok3:SOk S (u2.addressed c).2:=by
     rw[har];exact⟨⟨ok2.ok.sp,ok2.ok.hd,ok2.ok.ct,ok2.ok.ot,ok2.ok.fb,ok2.ok.bt,ok2.ok.bl,ok2.ok.lf⟩,ok2.fb,hrl.trans ok2.rg,ok2.pc,ok2.st⟩
    have hA:∀w1 s1,Mac w0 w1 mb sb db s1->s1.p=({ s.p with pc:=s.pc+1,steps:=s.steps+1}:Pst)->Calls Tryz.prog 129 #[.pointer (some ⟨mb,0,none⟩),.pointer (some ⟨g,s.pc*23,none⟩)] w1 fun r w'=>r=.returned (.bool (u2.addressed c).1)/\di w0 mb sb db w1 s1 w' (u2.addressed c).2.p:=fun w1 s1 m1 e1=>by
     rw[epc];exact Ck m1 hc (e1.trans q2) ok2
    by_cases hdo:(u2.addressed c).1 != c.neg
    .rw[QB hdo];refine JG (b:=(u2.addressed c).1) (p2:=(u2.addressed c).2.p) (goal:=0) h hP.sc hcv' hv hc.is.c3 hc.is.c2 hf (by omega) (by omega) hen hA (.inl ⟨?_,fun w2 s2 m2 e2=>?_⟩)
     .cases h1:(u2.addressed c).1<;>cases h2:c.neg<;>rw[h1,h2] at hdo<;>first|rfl|cases hdo
     .rw[epc];exact hD w2 s2 _ m2 e2 ok3
    .rw[Qw hdo];have hbn:(u2.addressed c).1=c.neg:=by
      cases h1:(u2.addressed c).1<;>cases h2:c.neg<;>rw[h1,h2] at hdo<;>first|rfl|exact absurd rfl hdo
     by_cases h123:c.what=123
     .rw[QB h123];exact JG h hP.sc hcv' hv hc.is.c3 hc.is.c2 hf (by omega) (by omega) hen hA (.inr (.inl ⟨hbn,h123,hc.is.rest.c5,_,rfl,rfl⟩))
     .rw[Qw h123];exact JG (goal:=0) h hP.sc hcv' hv hc.is.c3 hc.is.c2 hf (by omega) (by omega) hen hA (.inr (.inr ⟨hbn,h123,_,rfl,rfl⟩))
end
section
variable {w0 w w' w2:World}{mb sb db lo hi:Nat}{s s':Mst}{u:Ust}{σ:Sst}{S:fN}
theorem tK{x E:Nat}{W:World}(hx:W.cell? ⟨x,0,none⟩=some (.pointer (some ⟨mb,0,none⟩)))(h:Mac w0 W mb sb db s)(hxm:x≠mb):CallsD Tryz.prog 81 #[.pointer (some ⟨x,0,none⟩)] (.panicking [{ v:=fltV E 0,recovered:=false}]) W fun e u' w'=>e=.returned (.tuple #[])/\u'=.panicking [{ v:=fltV E 0,recovered:=true}]/\di w0 mb sb db W s w' ({ s with over:=true,err:=E}:Mst).p:=by
 have hta:∀w:World,(Instr.typeAssert (fltV E 0) 20 118 true).run Tryz.prog w=.ok (.tuple #[.agg #[.int .i64 (E:Int),.int .i64 0],.bool true]) w:=fun w=>by kernel_rfl
 refine callsD_of_wpS Tryz.func81 rfl fun c₀ cs hu=>?_;apply wpS_seq;apply wpS_region;simp[wpOpsS,go_sem,recoverD,hu,Tryz.ntmps81,Exit.thenS];refine wpS_of_wp ?_;have hrep:(Array.replicate 17 undef:Array Value)=#[undef,undef,undef,undef,undef,undef,undef,undef,undef,undef,undef,undef,undef,undef,undef,undef,undef]:=rfl;rw[hrep];simp only[Sp,QS,Rx,Qq,Qu,Qv];have ka:=Kp.alloc [] W (.cells #[.int .i64 (E:Int),.int .i64 0] 118);have BN:=Bl.alloc W [.int .i64 (E:Int),.int .i64 0] 118;have lx:=World.block_lt_of_cell? _ _ hx;have gx:=(ka.cell (p:=⟨x,0,none⟩) lx (by simp)).trans hx;have m1:=h.aj ka;go_upto_region 7 with fail
 obtain⟨t,ht⟩:∃t,t=W.heap.size:=⟨_,rfl⟩;obtain⟨W1,hW⟩:∃W1,W1=W.alloc (.cells #[.int .i64 (E:Int),.int .i64 0] 118):=⟨_,rfl⟩;have hmt:mb≠t:=by have:=h.b.lt;omega
 rw[<-ht,<-hW] at BN;rw[<-hW] at gx m1 ka;rw[<-ht,<-hW];have c0:=BN.at_ 0 _ rfl;have c17:=m1.b.at_ 17 _ rfl;have f17:=m1.b.free 17;have c18:=m1.b.at_ 18 _ rfl;have f18:=m1.b.free 18;have m2:=m1.set (s':={ s with over:=true}) 17 (.bool true) (by omega) rfl rfl;have m3:=m2.set (s':={ s with over:=true,err:=E}) 18 (.int .i64 (E:Int)) (by omega) rfl rfl;have m4:=m3.aj (Kp.drew [] _);have G:Hid (di w0 mb sb db W s ((W1.setCell ⟨mb,17,none⟩ (.bool true)).setCell ⟨mb,18,none⟩ (.int .i64 (E:Int))).drew ({ s with over:=true,err:=E}:Mst).p):=hid ⟨_,rfl,m4,(Gr.dj ka (fun _ e=>by cases e)).trans ((Gr.set _ _ _ _).trans ((Gr.set _ _ _ _).trans (Gr.dj (Kp.drew [] _) (fun _ e=>by cases e))))⟩;clear ht hW lx BN ka hx m1 m2 m3 m4 h;go_region_with fail
 all_goals
  generalize ((W1.setCell ⟨mb,17,none⟩ (.bool true)).setCell ⟨mb,18,none⟩ (.int .i64 (E:Int))).drew=W4 at *;exact⟨rfl,_,rfl,_,results_none rfl _ _ _,rfl,rfl,G.out⟩
end
def Ust.inC(n:Nat)(u:Ust):Nat:=(2001-u.steps)*(n+2)+(n+1-u.pc)+(if u.aR=.no then 1 else 0)
def Ust.meas(n:Nat)(u:Ust):Nat:=u.left.length*(2002*(n+2)+n+3)+u.inC n
section
variable {S:fN}{u u1 u2:Ust}
theorem P8(n:Nat)(u:Ust):u.inC n+1<2002*(n+2)+n+3:=by
 unfold Ust.inC;have h:(2001-u.steps)*(n+2)<=2001*(n+2):=QN _ (by omega);have h2:2002*(n+2)=2001*(n+2)+(n+2):=by omega
 split<;>omega
theorem meas_lt(n:Nat)(u:Ust)(S:fN)(hn:n=S.aD.length):u.meas n<u.fuel S:=by
 unfold Ust.meas Ust.fuel;have:=P8 n u;rw[<-hn,QY,Q0];omega
theorem N5{n:Nat}{v w:Ust}(h1:w.steps=v.steps+1)(h2:v.steps<2000)(h3:v.pc<n)(h4:v.aR=.no):w.inC n<v.inC n:=by
 unfold Ust.inC;rw[QB h4,h1];obtain⟨a,ha⟩:∃a,2001-v.steps=a+1:=⟨2000-v.steps,by omega⟩;rw[ha,show 2001-(v.steps+1)=a by omega,QY,Q0];split<;>omega
theorem NL(hP:Ak S)(h:xQ S u)(hw:u.aR=.no)(e:u.look S=.ok u2):xQ S u2/\u2.left=u.left/\u2.inC S.aD.length<u.inC S.aD.length:=by
 unfold Ust.look at e
 cases hcm:S.aD[u.pc]? with
 | none=>
  rw[hcm] at e;obtain⟨k,hp,hb,hwb⟩:=ox h.ok.ok e;refine⟨⟨⟨k.ok,k.fb.trans h.ok.fb,k.rg.trans h.ok.rg,by rw[hp];exact h.ok.pc,by rw[k.st];exact h.ok.st⟩,by rw[hb];exact QG _,fun _=>hb⟩,k.lf,?_⟩;unfold Ust.inC;rw[k.st,hp,hwb,hw];simp
 | some c=>
  rw[hcm] at e;have hlt:=(List.getElem?_eq_some_iff.1 hcm).1;have hm:c∈S.aD:=QM hcm;dsimp only at e;by_cases hpl:c.what=125\/c.what=58
  .rw[QB hpl] at e;injection e with e;subst e;have hk:=h.ok.ok;refine⟨⟨⟨⟨hk.sp,hk.hd,hk.ct,hk.ot,hk.fb,hk.bt,hk.bl,hk.lf⟩,h.ok.fb,h.ok.rg,by show u.pc+1<=_;omega,h.ok.st⟩,h.bs,h.bw⟩,rfl,?_⟩;unfold Ust.inC;dsimp only;omega
  .rw[Qw hpl] at e;by_cases hst:2000<u.steps+1
   .rw[QB hst] at e
    cases e
   .rw[Qw hst] at e;have hk:=h.ok.ok;obtain⟨u3,hu3⟩:∃u3:Ust,u3={ u with pc:=u.pc+1,steps:=u.steps+1}:=⟨_,rfl⟩;rw[<-hu3] at e;have s3:u3.steps=u.steps+1:=by rw[hu3]
    obtain⟨rg,har,hrl⟩:=oA u3 c;have ok3:SOk S (u3.addressed c).2:=by
     rw[har,hu3];exact⟨⟨hk.sp,hk.hd,hk.ct,hk.ot,hk.fb,hk.bt,hk.bl,hk.lf⟩,h.ok.fb,by rw[hu3] at hrl;exact hrl.trans h.ok.rg,by show u.pc+1<=_;omega,by show u.steps+1<=2000;omega⟩
    have b3:(u3.addressed c).2.br=u.br:=by rw[har,hu3]
    have st3:(u3.addressed c).2.steps=u.steps+1:=by rw[har,hu3]
    have w3:(u3.addressed c).2.aR=.no:=by rw[har,hu3];exact hw
    have l3:(u3.addressed c).2.left=u.left:=by rw[har,hu3]
    have hbs:=h.bs;have fin:∀u',SOk S u'->u'.br.length<=u.br.length+1->(u'.aR≠.no->u'.br=[])->u'.steps=u.steps+1->u'.left=u.left->xQ S u'/\u'.left=u.left/\u'.inC S.aD.length<u.inC S.aD.length:=fun u' h1 h2 h3 h4 h5=>
     ⟨⟨h1,by omega,h3⟩,h5,N5 h4 (by omega) hlt hw⟩
    split at e
    .obtain⟨k,hp⟩:=NR (n:=S.aD.length) ok3.ok (by rw[b3];omega) (hP.ok c hm).tx (hP.gl c hm) ok3.pc e;refine fin u2 ⟨k.ok,k.fb.trans ok3.fb,k.rg.trans ok3.rg,hp,by rw[k.st];exact ok3.st⟩ (by have:=k.br;rw[b3] at this;exact this) (fun q=>?_) (by rw[k.st];exact st3) (k.lf.trans l3);rcases k.bw with r|r
     .rw[w3] at r;exact absurd r q
     .exact r
    .split at e
     .injection e with e;subst e;exact fin _ ⟨⟨ok3.ok.sp,ok3.ok.hd,ok3.ok.ct,ok3.ok.ot,ok3.ok.fb,ok3.ok.bt,ok3.ok.bl,ok3.ok.lf⟩,ok3.fb,ok3.rg,hP.gl c hm,ok3.st⟩ (by show(u3.addressed c).2.br.length<=_;rw[b3];omega) (fun q=>absurd w3 q) st3 l3
     .injection e with e;subst e;exact fin _ ok3 (by rw[b3];omega) (fun q=>absurd w3 q) st3 l3
theorem ui(h:u.there=true):((eJ u.left).2.getD []).length<u.left.length:=by
 cases hc:(eJ u.left).2 with
 | some R=>
  have:=congrArg List.length (jb hc).1;simp at this;simp;omega
 | none=>
  simp only[Option.getD_none,Rk];unfold Ust.there at h;rw[hc] at h
  cases hl:u.left with
  | nil=>rw[hl] at h;simp at h
  | cons a l=>simp
theorem nY(h:xQ S u)(e:u.dt=.ok (some u1)):xQ S u1/\u1.aR=.no/\((u.aR=.no/\u1=u)\/u1.left.length<u.left.length):=by
 cases hw:u.aR with
 | no=>
  unfold Ust.dt at e;rw[hw] at e;injection e with e;injection e with e;subst e;exact⟨h,hw,.inl ⟨rfl,rfl⟩⟩
 | bw=>
  have hb:=h.bw (by rw[hw];simp);unfold Ust.dt at e;rw[hw] at e;dsimp only at e;split at e
  .cases e
  .rename_i hl;split at e
   .rename_i hth;injection e with e;injection e with e;subst e;have k:=h.ok.ok.ue hth;exact⟨⟨⟨⟨by show(eJ u.left).1.length<=4000;omega,k.hd,k.ct,k.ot,k.fb,k.bt,k.bl,k.lf⟩,h.ok.fb,h.ok.rg,QG _,QG _⟩,by show u.br.length<=0;rw[hb];exact QD _,fun q=>absurd rfl q⟩,rfl,.inr (ui hth)⟩
   .injection e with e
    cases e
 | gw=>
  have hb:=h.bw (by rw[hw];simp);unfold Ust.dt at e;rw[hw] at e;dsimp only at e;split at e
  .cases e
  .rename_i hl;split at e
   .rename_i hth;injection e with e;injection e with e;subst e;have k:=h.ok.ok.ue hth;exact⟨⟨⟨⟨by show(eJ u.left).1.length<=4000;omega,k.hd,k.ct,k.ot,k.fb,k.bt,k.bl,k.lf⟩,h.ok.fb,h.ok.rg,h.ok.pc,h.ok.st⟩,by show u.br.length<=u.steps;exact h.bs,fun q=>absurd rfl q⟩,rfl,.inr (ui hth)⟩
   .injection e with e
    cases e
 | gm=>
  have hb:=h.bw (by rw[hw];simp);unfold Ust.dt at e;rw[hw] at e;dsimp only at e;split at e
  .cases e
  .rename_i hl;split at e
   .rename_i hth;split at e
    .cases e
    .rename_i u3 hj;injection e with e;injection e with e;subst e;obtain⟨t,htl,rfl⟩:=ql hj;have k:=h.ok.ok.ue hth;exact⟨⟨⟨⟨htl,k.hd,k.ct,k.ot,k.fb,k.bt,k.bl,k.lf⟩,h.ok.fb,h.ok.rg,h.ok.pc,h.ok.st⟩,h.bs,fun q=>absurd rfl q⟩,rfl,.inr (ui hth)⟩
   .injection e with e
    cases e
theorem yA(hP:Ak S)(h:xQ S u)(e1:u.dt=.ok (some u1))(e2:u1.look S=.ok u2):xQ S u2/\u2.meas S.aD.length<u.meas S.aD.length:=by
 obtain⟨h1,hw1,hc⟩:=nY h e1;obtain⟨h2,hl2,hi2⟩:=NL hP h1 hw1 e2;refine⟨h2,?_⟩;unfold Ust.meas;rw[hl2];rcases hc with⟨_,rfl⟩|hlt
 .omega
 .have:=P8 S.aD.length u1;have hm:(u1.left.length+1)*(2002*(S.aD.length+2)+S.aD.length+3)<=u.left.length*(2002*(S.aD.length+2)+S.aD.length+3):=QN _ hlt;rw[QY,Q0] at hm;omega
end
def runEnd:Except (Nat×Ust) Ust->Ust
 | .error (e,u1)=>{ u1 with over:=true,err:=e}
 | .ok u1=>u1
theorem C7(S:fN)(u:Ust):u.run S=runEnd (Ust.AM S (u.fuel S) u):=by
 unfold Ust.run
 cases Ust.AM S (u.fuel S) u<;>rfl
section
variable {w0 w w' w2:World}{mb sb db lo hi:Nat}{s s':Mst}{u:Ust}{σ:Sst}{S:fN}
theorem run_t(hP:Prg w0 lo hi sb σ S)(h:Mac w0 w mb sb db s)(hp:s.p=u.p)(hu:xQ S u):Calls Tryz.prog 42 #[.pointer (some ⟨mb,0,none⟩)] w fun r w'=>r=.returned (.tuple #[])/\di w0 mb sb db w s w' (u.run S).p:=by
 have hmf:∀(fn:Fn) (first cap:Array Value) (w:World),(Instr.makeFunc fn first cap).run Tryz.prog w=.ok (.func fn first cap) w:=fun _ _ _ _=>rfl;rw[C7];have hmeas:=meas_lt S.aD.length u S rfl;obtain⟨n,hn⟩:∃n,n=u.fuel S:=⟨_,rfl⟩;rw[<-hn] at hmeas ⊢;obtain⟨RR,hRR⟩:∃RR,RR=Ust.AM S n u:=⟨_,rfl⟩;rw[<-hRR];have HM:=hid (And.intro hmeas hRR);have HPG:=hid hP;have HU:=hid hu;have HPP:=hid hp;clear hn hRR hmeas hP hu hp;obtain⟨o,ho⟩:∃o:Obj,o=.cells #[.pointer (some ⟨mb,0,none⟩)] 61:=⟨_,rfl⟩;have k1:=Kp.alloc [] w o;have m1:=h.aj k1;have BX:Bl (w.alloc o) w.heap.size [.pointer (some ⟨mb,0,none⟩)]:=by rw[ho];exact Bl.alloc w _ _
 have far:=(h.eh (QD w.heap.size)).2;have hxm:w.heap.size≠mb:=fun e=>far 0 (by rw[e];rfl);obtain⟨x,hx⟩:∃x,x=w.heap.size:=⟨_,rfl⟩;obtain⟨wa,hwa⟩:∃wa,wa=w.alloc o:=⟨_,rfl⟩;have HO:=hid ho;go_enter_defers Tryz.func42,Tryz.ntmps42
 go_wp2_with fail;rw[<-hx];rw[<-ho,<-hwa];rw[<-hx] at BX far hxm;rw[<-hwa] at BX m1 k1;clear hx hwa ho HO;have BXH:=hid BX;go_loopg [3] n (fun k _ wr=>∃(s1:Mst) (u1:Ust),Mac w0 wr mb sb db s1/\Hid (s1.p=u1.p)/\Hid (xQ S u1)/\Hid (u1.meas S.aD.length<k/\RR=Ust.AM S k u1)/\Gr mb db wa s.r wr s1.r)
 case atStart=>exact⟨s,u,m1,HPP,HU,HM,Gr.refl _ _ _ _⟩
 case round=>
  obtain⟨s1,u1,ms,HP1,HU1,HR,gs⟩:=hrel;have b1:=(gs.bl BXH.out far).at_ 0 _ rfl;have c17:=ms.b.at_ 17 _ rfl;have eov:s1.over=u1.over:=congrArg Pst.over HP1.out;rw[eov] at c17;obtain⟨hk,hRR⟩:=HR.out;obtain⟨k',hkk⟩:=Nat.exists_eq_succ_of_ne_zero (Nat.ne_of_gt (Nat.lt_of_le_of_lt (QG _) hk));rw[hkk] at hk hRR;have HKK:=hid hkk;clear hkk;unfold Ust.AM at hRR;clear HR eov
  cases hov:u1.over with
  | true=>
   rw[hov] at c17 hRR;rw[QB rfl] at hRR;have HRR:=hid hRR;clear hRR hk;go_wp2_with fail;refine leaves_cons (f:=81) (args:=#[.pointer (some ⟨x,0,none⟩)]) (by simp) (by simp[go_sem]) ?_;refine(qI _ _).mono ?_;rintro e u' w'' ⟨rfl,rfl,rfl⟩;simp[Leaves,settle,results,Tryz.results42,go_sem];rw[HRR.out];exact⟨s1,HP1.out,ms,(Gr.dj k1 (fun _ e=>by cases e)).trans gs⟩
  | false=>
   rw[hov] at c17 hRR;rw[Qw (by simp)] at hRR;have ST:=Et ms HP1.out HU1.out.ok.ok
   cases hsup:u1.dt with
   | error q=>
    obtain⟨E,u2⟩:=q;rw[hsup] at hRR ST;have HRR:=hid hRR;have HST:=hid ST;clear hRR ST hk hsup hov;go_wp2_with fail;refine HST.out.mono ?_;rintro r w2 ⟨rfl,s2,e2,m2,g2⟩;have g12:=gs.trans g2;have b2:=(g12.bl BXH.out far).at_ 0 _ rfl;go_wp2_with fail;refine leaves_cons (f:=81) (args:=#[.pointer (some ⟨x,0,none⟩)]) (by simp) (by simp[go_sem]) ?_;refine(tK (E:=E) b2 m2 hxm).mono ?_;rintro e u' w3 ⟨rfl,rfl,s3,e3,m3,g3⟩;simp[Leaves,settle,results,Tryz.results42,go_sem];rw[HRR.out];refine⟨s3,e3.trans ?_,m3,(Gr.dj k1 (fun _ e=>by cases e)).trans (g12.trans g3)⟩;show({ s2.p with over:=true,err:=E}:Pst)=_;rw[e2]
    rfl
   | ok o=>
    cases o with
    | none=>
     rw[hsup] at hRR ST;have HRR:=hid hRR;have HST:=hid ST;clear hRR ST hk hsup hov;go_wp2_with fail;refine HST.out.mono ?_;rintro r w2 ⟨rfl,s2,e2,m2,g2⟩;go_wp2_with fail;refine leaves_cons (f:=81) (args:=#[.pointer (some ⟨x,0,none⟩)]) (by simp) (by simp[go_sem]) ?_;refine(qI _ _).mono ?_;rintro e u' w'' ⟨rfl,rfl,rfl⟩;simp[Leaves,settle,results,Tryz.results42,go_sem];rw[HRR.out];exact⟨s2,e2,m2,(Gr.dj k1 (fun _ e=>by cases e)).trans (gs.trans g2)⟩
    | some u2=>
     rw[hsup] at hRR ST;dsimp only at hRR;have HSUP:=hid hsup;have U2:=hid (nY HU1.out hsup).1;have HRR:=hid hRR;have HST:=hid ST;clear hRR ST hsup hov;go_wp2_with fail;refine HST.out.mono ?_;rintro r w2 ⟨rfl,s2,e2,m2,g2⟩;have g12:=gs.trans g2;have b2:=(g12.bl BXH.out far).at_ 0 _ rfl;have LT:=look_t HPG.out m2 e2 U2.out;have hRR:=HRR.out;clear HRR
     cases hlk:u2.look S with
     | error q=>
      obtain⟨E,u3⟩:=q;rw[hlk] at hRR LT;have HRR:=hid hRR;have HLT:=hid LT;clear hRR LT hlk hk;go_wp2_with fail;refine HLT.out.mono ?_;rintro r w3 ⟨rfl,s3,e3,m3,g3⟩;have g13:=g12.trans g3;have b3:=(g13.bl BXH.out far).at_ 0 _ rfl;go_wp2_with fail;refine leaves_cons (f:=81) (args:=#[.pointer (some ⟨x,0,none⟩)]) (by simp) (by simp[go_sem]) ?_;refine(tK (E:=E) b3 m3 hxm).mono ?_;rintro e u' w4 ⟨rfl,rfl,s4,e4,m4,g4⟩;simp[Leaves,settle,results,Tryz.results42,go_sem];rw[HRR.out];refine⟨s4,e4.trans ?_,m4,(Gr.dj k1 (fun _ e=>by cases e)).trans (g13.trans g4)⟩;show({ s3.p with over:=true,err:=E}:Pst)=_;rw[e3]
      rfl
     | ok u3=>
      rw[hlk] at hRR LT;dsimp only at hRR;obtain⟨hi3,hd3⟩:=yA HPG.out.ok HU1.out HSUP.out hlk;have HRR:=hid hRR;have HLT:=hid LT;have U3:=hid hi3;have HD3:Hid (u3.meas S.aD.length<k'):=hid (by omega);clear hRR LT hlk hk hi3 hd3;go_wp2_with fail;refine HLT.out.mono ?_;rintro r w3 ⟨rfl,s3,e3,m3,g3⟩;have P3:=hid e3;clear e3;go_wp2_with fail;go_roundg k'
      case measure=>rw[HKK.out];omega
      case rel=>exact⟨s3,u3,m3,P3,U3,hid ⟨HD3.out,HRR.out⟩,g12.trans g3⟩
end
