import Derived.Test.YtiahkfoojjpaaaaGreatDoorS46
set_option maxRecDepth 100000
set_option maxHeartbeats 16000000
set_option linter.all false
namespace Go.Proofs.YtiahkfoojjpaaaaGreatDoor
open Go.RowKit
section
variable {w0 w w' w2:World}{mb sb db lo hi:Nat}{s s':Mst}{u:Ust}{σ:Sst}{S:fN}
theorem ME(h:Mac w0 w mb sb db s)(hl:s.left.size<=281474976710656):Calls Tryz.prog 84 #[.pointer (some ⟨mb,2,none⟩)] w fun r w'=>r=.returned (.tuple #[])/\di w0 mb sb db w s w' s.p:=by
 have c2:=h.b.at_ 2 _ rfl;have f2:=h.b.free 2;go_enter Tryz.func84,Tryz.ntmps84
 go_wp2_with fail;refine(BV s.left w (by omega)).mono ?_;rintro r w1 ⟨rfl,k1⟩;have m1:=h.aj k1;have d2:=m1.b.at_ 2 _ rfl;have g2:=m1.b.free 2;go_wp2_with fail;go_end0;exact⟨rfl,s,rfl,m1.set 2 _ (by omega) rfl rfl,(Gr.dj k1 (fun _ e=>by cases e)).trans (Gr.set _ _ _ _)⟩
theorem ur(h:Mac w0 w mb sb db s)(hl:s.over=false->s.left.size<=281474976710656):Calls Tryz.prog 43 #[.pointer (some ⟨mb,0,none⟩)] w fun r w'=>r=.returned (.agg (fQ s.r.out s.over s.err s.status).toArray)/\di w0 mb sb db w s w' s.p.il:=by
 have B0:=hid (Bl.alloc w [.string ⟨#[]⟩,.bool false,.int .i64 0,.int .i64 0] 31);have k1:=Kp.alloc [] w (.cells [Value.string ⟨#[]⟩,.bool false,.int .i64 0,.int .i64 0].toArray 31);have m1:=h.aj k1;have far:=(h.eh (QD w.heap.size)).2;have c17:=m1.b.at_ 17 _ rfl;have c2:=m1.b.at_ 2 _ rfl;have f2:=m1.b.free 2;obtain⟨x,hx⟩:∃x,x=w.heap.size:=⟨_,rfl⟩;obtain⟨wa,hwa⟩:∃wa,wa=w.alloc (.cells [Value.string ⟨#[]⟩,.bool false,.int .i64 0,.int .i64 0].toArray 31):=⟨_,rfl⟩;obtain⟨l1,hl1⟩:∃l1:ByteArray,l1=if s.over then ⟨#[]⟩ else s.left:=⟨_,rfl⟩;have HL1:=hid hl1;have hl2:l1.size<=281474976710656:=by
  rw[hl1];split
  .show 0<=281474976710656;omega
  .rename_i q;exact hl (by simpa using q)
 go_enter Tryz.func43,Tryz.ntmps43
 go_upto_if 6 with fail
 rw[<-hx];rw[<-hwa] at B0 k1 m1 c17 c2 f2 ⊢;rw[<-hx] at far B0;have HXX:=hid hx;clear hx hwa hl1;go_cut [3] from 6 (fun _ wx=>∃s1,s1.p=({ s.p with left:=l1}:Pst)/\Mac w0 wx mb sb db s1/\Gr mb db wa s.r wx s1.r)
 case first=>
  cases ho:s.over
  .rw[ho] at c17;go_wp2_with fail;go_meet
   case rel=>exact⟨s,by rw[HL1.out,Qw (by rw[ho];simp)];rfl,m1,Gr.refl _ _ _ _⟩
  .rw[ho] at c17;go_wp2_with fail;go_meet
   case rel=>exact⟨{ s with left:=⟨#[]⟩},by rw[HL1.out,QB ho];rfl,m1.set 2 _ (by omega) rfl rfl,Gr.set _ _ _ _⟩
 case rest=>
 obtain⟨s1,e1,m2,g2⟩:=hcut;have el:s1.left=l1:=congrArg Pst.left e1;have HST:=hid (ME m2 (by rw[el];exact hl2));clear c17 c2 f2;go_wp2_with fail;refine HST.out.mono ?_;rintro r w3 ⟨rfl,s3,e3,m3,g3⟩;have g13:=g2.trans g3;have B3:=g13.bl B0.out far;have e13:=e3.trans e1;have eo:s3.over=s.over:=congrArg Pst.over e13;have ee:s3.err=s.err:=congrArg Pst.err e13;have es:s3.status=s.status:=congrArg Pst.status e13;have eu:s3.r.out=s.r.out:=congrArg Pst.out e13;have d17:=m3.b.at_ 17 _ rfl;have d18:=m3.b.at_ 18 _ rfl;have d19:=m3.b.at_ 19 _ rfl;rw[eo] at d17;rw[ee] at d18;rw[es] at d19;have HTO:=hid (Ht (m3.aj (Kp.drew [] w3)));have EQ:=hid (And.intro e13 (And.intro eo (And.intro ee (And.intro es eu))));clear HST el e1 e3 e13 eo ee es eu g2 g3;go_upto_region 4 with fail
 go_cut [3] from 15 (fun _ wx=>∃s4,s4.p=s.p.il/\Mac w0 wx mb sb db s4/\Gr mb db w s.r wx s4.r/\Bl wx x (fQ s.r.out s.over s.err s.status))
 case first=>
  have KEY:Hid (∀wx s4,s4.p=({ s3.p with out:=[]}:Pst)->Mac w0 wx mb sb db s4->wx.cell? ⟨mb,17,none⟩=some (.bool s.over)/\wx.cell? ⟨mb,18,none⟩=some (.int .i64 s.err)/\wx.cell? ⟨mb,19,none⟩=some (.int .i64 s.status)):=hid (fun wx s4 e m=>by
   have o1:s4.over=s.over:=(congrArg Pst.over e).trans EQ.out.2.1;have o2:s4.err=s.err:=(congrArg Pst.err e).trans EQ.out.2.2.1;have o3:s4.status=s.status:=(congrArg Pst.status e).trans EQ.out.2.2.2.1;rw[<-o1,<-o2,<-o3]
   exact⟨m.b.at_ 17 _ rfl,m.b.at_ 18 _ rfl,m.b.at_ 19 _ rfl⟩)
  have FARX:Hid (∀i,maB mb db s3.r i≠some x):=hid (fun i e=>by
   rcases g13.from_ i x e with⟨j,hj⟩|q
   .exact far j hj
   .have:=B0.out.lt;omega)
  go_region_with (go_at_call 85;refine HTO.out.mono ?_;rintro r w4 ⟨rfl,s4,e4,m4,g4⟩;have q17:=(KEY.out w4 s4 e4 m4).1;have q18:=(KEY.out w4 s4 e4 m4).2.1;have q19:=(KEY.out w4 s4 e4 m4).2.2;have B4:=hid (g4.bl (B3.aj (Kp.drew [] w3) (by simp)) FARX.out);have x0:=B4.out.at_ 0 _ rfl;have x1:=B4.out.at_ 1 _ rfl;have x2:=B4.out.at_ 2 _ rfl;have x3:=B4.out.at_ 3 _ rfl;have y0:=B4.out.free 0;have y1:=B4.out.free 1;have y2:=B4.out.free 2;have y3:=B4.out.free 3)
  all_goals
   go_wp2_with fail;go_meet
   case rel=>
    rw[<-EQ.out.2.2.2.2];have kx:Kp [x] w4 (w4.setCells x 0 (fQ s3.r.out s.over s.err s.status)):=dV (by simp) _ _ _;have gx:Gr mb db wa s.r w4 s4.r:=g13.trans ((Gr.dj (r:=s3.r) (Kp.drew [] w3) (fun _ e=>by cases e)).trans g4);have fx:∀i,maB mb db s4.r i≠some x:=fun i e=>by
     rcases gx.from_ i x e with⟨j,hj⟩|q
     .exact far j hj
     .have:=B0.out.lt;omega
    have gw:Gr mb db w s.r w4 s4.r:=(Gr.dj k1 (fun _ e=>by cases e)).trans gx;refine⟨s4,?_,m4.other kx (fun y hy=>?_),⟨QC gw.size kx.size,gw.from_,fun p hp hn=>(kx.block p (Qx hp gw.size) (fun e=>?_)).trans (gw.same p hp hn)⟩,B4.out.put (vs:=fQ s3.r.out s.over s.err s.status) rfl⟩
    .rw[e4,EQ.out.1,HL1.out];rfl
    .simp at hy;rw[hy];exact⟨by rw[HXX.out];exact h.r.kp.size,fx⟩
    .simp at e;rw[e,HXX.out] at hp;omega
 case rest=>
 obtain⟨s4,e4,m4,g4,B4⟩:=hcut;go_wp2_with fail;refine bodyPost_ret (eX (p:=2) (ty:=31) (by rw[Tryz.results43]) _ _ x 0 rfl _ _ B4.range Tryz.underlying31 rfl (by rw[Tryz.fo];rfl)) rfl ⟨rfl,s4,e4,m4,g4⟩
theorem feed_x{data:ByteArray}{p':Pst}(h:Mac w0 w mb sb db s)(ho:s.over=false)(hsz:s.left.size+data.size<=281474976710656)(hr:∀w1,Mac w0 w1 mb sb db { s with left:=s.left++data}->Calls Tryz.prog 42 #[.pointer (some ⟨mb,0,none⟩)] w1 fun r w'=>r=.returned (.tuple #[])/\di w0 mb sb db w1 { s with left:=s.left++data} w' p')(hl:p'.over=false->p'.left.size<=281474976710656):Calls Tryz.prog 27 #[.pointer (some ⟨mb,0,none⟩),.string data] w fun r w'=>r=.returned (.agg (fQ p'.out p'.over p'.err p'.status).toArray)/\di w0 mb sb db w s w' p'.il:=by
 have ka:=Kp.alloc [] w (.cells oK.toArray 31);have m1:=h.aj ka;have c17:=m1.b.at_ 17 _ rfl;rw[ho] at c17;have c2:=m1.b.at_ 2 _ rfl;have f2:=m1.b.free 2;have q1:¬9223372036854775807<s.left.size+data.size:=by omega
 have m2:=m1.set (s':={ s with left:=s.left++data}) 2 (.string (s.left++data)) (by omega) rfl rfl;have HR:=hid (hr _ m2);go_enter Tryz.func27,Tryz.ntmps27
 go_wp2_with fail;refine HR.out.mono ?_;rintro r w1 ⟨rfl,s1,e1,n1,g1⟩;have HP:=hid (ur n1 (fun q=>by rw[show s1.left=p'.left from congrArg Pst.left e1];exact hl ((congrArg Pst.over e1).symm.trans q)));have hg:Gr mb db (w.alloc (.cells oK.toArray 31)) s.r w1 s1.r:=(Gr.set _ _ _ _).trans g1;clear HR;go_wp2_with fail;refine HP.out.mono ?_;rintro r w2 ⟨rfl,s2,e2,n2,g2⟩;have eo:s1.r.out=p'.out:=congrArg Pst.out e1;have ev:s1.over=p'.over:=congrArg Pst.over e1;have ee:s1.err=p'.err:=congrArg Pst.err e1;have es:s1.status=p'.status:=congrArg Pst.status e1;rw[eo,ev,ee,es];have GG:=hid (di.stored (vs:=fQ p'.out p'.over p'.err p'.status) rfl h ⟨s2,e2.trans (by rw[e1]),n2,hg.trans g2⟩ rfl);have B2:=((hg.trans g2).bl (Bl.alloc w oK 31) (h.eh (QD _)).2)
 have HTH:Hid (w2.there w.heap.size 0 4):=hid (fun j hj=>by
  rw[QH];have:j<oK.length:=hj;rw[B2.at_ j _ (QA this)]
  exact⟨rfl,B2.free j⟩)
 clear HP eo ev ee es e1 e2 B2;go_wp2_with (refine wpList_store_mid rfl 31 (.tmp 4) (.tmp 23) rfl w.heap.size 0 (fQ p'.out p'.over p'.err p'.status).toArray rfl rfl HTH.out Tryz.fo (all_oneCell_toArray (jf _ _ _ _)) ?_)
 refine bodyPost_ret (eX (p:=4) (ty:=31) (by rw[Tryz.results27]) _ _ w.heap.size 0 rfl _ _ GG.out.2.range Tryz.underlying31 rfl (by rw[Tryz.fo];rfl)) rfl ⟨rfl,GG.out.1⟩
theorem end_x{p':Pst}(h:Mac w0 w mb sb db s)(ho:s.over=false)(hr:∀w1,Mac w0 w1 mb sb db { s with ended:=true}->Calls Tryz.prog 42 #[.pointer (some ⟨mb,0,none⟩)] w1 fun r w'=>r=.returned (.tuple #[])/\di w0 mb sb db w1 { s with ended:=true} w' p'):Calls Tryz.prog 28 #[.pointer (some ⟨mb,0,none⟩)] w fun r w'=>r=.returned (.agg (fQ p'.out true p'.err p'.status).toArray)/\di w0 mb sb db w s w' ({ p' with over:=true}:Pst).il:=by
 have ka:=Kp.alloc [] w (.cells oK.toArray 31);have m1:=h.aj ka;have c17:=m1.b.at_ 17 _ rfl;rw[ho] at c17;have c4:=m1.b.at_ 4 _ rfl;have f4:=m1.b.free 4;have m2:=m1.set (s':={ s with ended:=true}) 4 (.bool true) (by omega) rfl rfl;have HR:=hid (hr _ m2);go_enter Tryz.func28,Tryz.ntmps28
 go_wp2_with fail;refine HR.out.mono ?_;rintro r w1 ⟨rfl,s1,e1,n1,g1⟩;have d17:=n1.b.at_ 17 _ rfl;have f17:=n1.b.free 17;have n1':=n1.set (s':={ s1 with over:=true}) 17 (.bool true) (by omega) rfl rfl;have HP:=hid (ur n1' (fun q=>by cases q));have hg:Gr mb db (w.alloc (.cells oK.toArray 31)) s.r (w1.setCell ⟨mb,17,none⟩ (.bool true)) s1.r:=(Gr.set _ _ _ _).trans (g1.trans (Gr.set _ _ _ _));clear HR;go_wp2_with fail;refine HP.out.mono ?_;rintro r w2 ⟨rfl,s2,e2,n2,g2⟩;have eo:s1.r.out=p'.out:=congrArg Pst.out e1;have ee:s1.err=p'.err:=congrArg Pst.err e1;have es:s1.status=p'.status:=congrArg Pst.status e1;show(match Ending.returned (Value.agg (fQ s1.r.out true s1.err s1.status).toArray),w2 with|_,_=>_);rw[eo,ee,es];have GG:=hid (di.stored (p:=({ p' with over:=true}:Pst).il) (vs:=fQ p'.out true p'.err p'.status) rfl h ⟨s2,e2.trans (by show({ s1.p with over:=true}:Pst).il=_;rw[e1]),n2,hg.trans g2⟩ rfl)
 have B2:=((hg.trans g2).bl (Bl.alloc w oK 31) (h.eh (QD _)).2)
 have HTH:Hid (w2.there w.heap.size 0 4):=hid (fun j hj=>by
  rw[QH];have:j<oK.length:=hj;rw[B2.at_ j _ (QA this)]
  exact⟨rfl,B2.free j⟩)
 clear HP eo ee es e1 e2 B2;go_wp2_with (refine wpList_store_mid rfl 31 (.tmp 2) (.tmp 18) rfl w.heap.size 0 (fQ p'.out true p'.err p'.status).toArray rfl rfl HTH.out Tryz.fo (all_oneCell_toArray (jf _ _ _ _)) ?_)
 refine bodyPost_ret (eX (p:=2) (ty:=31) (by rw[Tryz.results28]) _ _ w.heap.size 0 rfl _ _ GG.out.2.range Tryz.underlying31 rfl (by rw[Tryz.fo];rfl)) rfl ⟨rfl,GG.out.1⟩
theorem end_o(h:Mac w0 w mb sb db s)(ho:s.over=true):Calls Tryz.prog 28 #[.pointer (some ⟨mb,0,none⟩)] w fun r w'=>r=.returned (.agg (fQ s.r.out true s.err s.status).toArray)/\di w0 mb sb db w s w' s.p.il:=by
 have ka:=Kp.alloc [] w (.cells oK.toArray 31);have m1:=h.aj ka;have c17:=m1.b.at_ 17 _ rfl;rw[ho] at c17;have HP:=hid (ur m1 (fun q=>by rw[ho] at q;cases q));rw[ho] at HP;go_enter Tryz.func28,Tryz.ntmps28
 go_wp2_with fail;refine HP.out.mono ?_;rintro r w2 ⟨rfl,s2,e2,n2,g2⟩;have GG:=hid (di.stored (vs:=fQ s.r.out true s.err s.status) rfl h ⟨s2,e2,n2,g2⟩ rfl);have B2:=(g2.bl (Bl.alloc w oK 31) (h.eh (QD _)).2)
 have HTH:Hid (w2.there w.heap.size 0 4):=hid (fun j hj=>by
  rw[QH];have:j<oK.length:=hj;rw[B2.at_ j _ (QA this)]
  exact⟨rfl,B2.free j⟩)
 clear HP e2 B2;go_wp2_with (refine wpList_store_mid rfl 31 (.tmp 2) (.tmp 18) rfl w.heap.size 0 (fQ s.r.out true s.err s.status).toArray rfl rfl HTH.out Tryz.fo (all_oneCell_toArray (jf _ _ _ _)) ?_)
 refine bodyPost_ret (eX (p:=2) (ty:=31) (by rw[Tryz.results28]) _ _ w.heap.size 0 rfl _ _ GG.out.2.range Tryz.underlying31 rfl (by rw[Tryz.fo];rfl)) rfl ⟨rfl,GG.out.1⟩
theorem feed_o{data:ByteArray}(h:Mac w0 w mb sb db s)(ho:s.over=true):Calls Tryz.prog 27 #[.pointer (some ⟨mb,0,none⟩),.string data] w fun r w'=>r=.returned (.agg (fQ s.r.out true s.err s.status).toArray)/\di w0 mb sb db w s w' s.p.il:=by
 have ka:=Kp.alloc [] w (.cells oK.toArray 31);have m1:=h.aj ka;have c17:=m1.b.at_ 17 _ rfl;rw[ho] at c17;have HP:=hid (ur m1 (fun q=>by rw[ho] at q;cases q));rw[ho] at HP;go_enter Tryz.func27,Tryz.ntmps27
 go_wp2_with fail;refine HP.out.mono ?_;rintro r w2 ⟨rfl,s2,e2,n2,g2⟩;have GG:=hid (di.stored (vs:=fQ s.r.out true s.err s.status) rfl h ⟨s2,e2,n2,g2⟩ rfl);have B2:=(g2.bl (Bl.alloc w oK 31) (h.eh (QD _)).2)
 have HTH:Hid (w2.there w.heap.size 0 4):=hid (fun j hj=>by
  rw[QH];have:j<oK.length:=hj;rw[B2.at_ j _ (QA this)]
  exact⟨rfl,B2.free j⟩)
 clear HP e2 B2;go_wp2_with (refine wpList_store_mid rfl 31 (.tmp 4) (.tmp 23) rfl w.heap.size 0 (fQ s.r.out true s.err s.status).toArray rfl rfl HTH.out Tryz.fo (all_oneCell_toArray (jf _ _ _ _)) ?_)
 refine bodyPost_ret (eX (p:=4) (ty:=31) (by rw[Tryz.results27]) _ _ w.heap.size 0 rfl _ _ GG.out.2.range Tryz.underlying31 rfl (by rw[Tryz.fo];rfl)) rfl ⟨rfl,GG.out.1⟩
end
section
variable {w0 w w' w2:World}{mb sb db lo hi:Nat}{s s':Mst}{u:Ust}{σ:Sst}{S:fN}
theorem Db(hP:Ak S):∀(k:Nat) (u v:Ust),xQ S u->Ust.AM S k u=.ok v->xQ S v
 | 0,u,v,h,e=>by
  injection e with e;subst e;exact h
 | k+1,u,v,h,e=>by
  unfold Ust.AM at e;split at e
  .injection e with e;subst e;exact h
  .split at e
   .cases e
   .injection e with e;subst e;exact h
   .rename_i u1 h1;split at e
    .cases e
    .rename_i u2 h2;exact Db hP k u2 v (yA hP h h1 h2).1 e
def LY(S:fN)(u:Ust):Prop:=(u.over=true/\u.left=[])\/(u.over=false/\xQ S u)
theorem Iy(hP:Ak S)(h:xQ S u):(u.run S).over=true\/xQ S (u.run S):=by
 rw[C7]
 cases hr:Ust.AM S (u.fuel S) u with
 | error q=>exact .inl rfl
 | ok v=>exact .inr (Db hP _ u v h hr)
theorem jV(h:u.over=true\/xQ S u):LY S u.qX.2:=by
 by_cases ho:u.over=true
 .exact .inl ⟨ho,by show(if u.over then [] else u.left)=[];rw[ho];rfl⟩
 .rcases h with h|h
  .exact absurd h ho
  .have k:=h.ok.ok;have el:u.qX.2={ u with out:=[]}:=by
    unfold Ust.qX;rw[Qw ho]
   rw[el];exact .inr ⟨by simpa using ho,⟨⟨⟨k.sp,k.hd,k.ct,QG _,k.fb,k.bt,k.bl,k.lf⟩,h.ok.fb,h.ok.rg,h.ok.pc,h.ok.st⟩,h.bs,h.bw⟩⟩
theorem On(hP:Ak S){d:List UInt8}(h:LY S u)(hd:u.over=false->u.left.length+d.length+u.number<=281474976710656):LY S (u.feed S d).2:=by
 unfold Ust.feed;rcases h with⟨h,_⟩|⟨ho,h⟩
 .rw[QB h];exact jV (.inl h)
 .rw[Qw (by rw[ho];simp)];have k:=h.ok.ok;exact jV (Iy hP ⟨⟨⟨k.sp,k.hd,k.ct,k.ot,k.fb,k.bt,k.bl,by show(u.left++d).length+u.number<=_;rw[Qy];exact hd ho⟩,h.ok.fb,h.ok.rg,h.ok.pc,h.ok.st⟩,h.bs,h.bw⟩)
theorem end_inv(h:LY S u):LY S (u.end_ S).2:=by
 unfold Ust.end_;rcases h with⟨h,_⟩|⟨ho,h⟩
 .rw[QB h];exact jV (.inl h)
 .rw[Qw (by rw[ho];simp)];exact jV (.inl rfl)
def RepO'(w0:World)(mb sb db:Nat)(w:World)(s:Mst)(q:Ust.Rep×Ust)(r:Ending)(w':World):Prop:=r=.returned (.agg (fQ q.1.out q.1.over q.1.err q.1.status).toArray)/\di w0 mb sb db w s w' q.2.p
theorem jW(u:Ust):u.p.il=u.qX.2.p:=by
 obtain⟨left,ahead,ended,count,number,space,held,aR,pc,steps,gU,over,err,status,out,fb,rg,br⟩:=u
 cases over<;>rfl
theorem mfeed_t{d:List UInt8}(hP:Prg w0 lo hi sb σ S)(h:Mac w0 w mb sb db s)(hp:s.p=u.p)(hu:LY S u)(hd:u.over=false->u.left.length+d.length+u.number<=281474976710656):Calls Tryz.prog 27 #[.pointer (some ⟨mb,0,none⟩),.string (ba d)] w (RepO' w0 mb sb db w s (u.feed S d)):=by
 unfold Ust.feed;have eo:s.over=u.over:=congrArg Pst.over hp;have el:s.left=ba u.left:=congrArg Pst.left hp;rcases hu with⟨h1,h2⟩|⟨h1,h2⟩
 .rw[QB h1];refine(feed_o h (eo.trans h1)).mono ?_;rintro r w1 ⟨rfl,g⟩;refine⟨?_,g.oE (by rw[hp];exact jW u)⟩;show Ending.returned (.agg (fQ s.r.out true s.err s.status).toArray)=.returned (.agg (fQ u.out u.over u.err u.status).toArray);rw[show s.r.out=u.out from congrArg Pst.out hp,show s.err=u.err from congrArg Pst.err hp,show s.status=u.status from congrArg Pst.status hp,h1]
 .rw[Qw (by rw[h1];simp)];replace hd:=hd h1;obtain⟨v,hv⟩:∃v:Ust,v={ u with left:=u.left++d}:=⟨_,rfl⟩;rw[<-hv];have k:=h2.ok.ok;have iv:xQ S v:=by
   rw[hv];exact⟨⟨⟨k.sp,k.hd,k.ct,k.ot,k.fb,k.bt,k.bl,by show(u.left++d).length+u.number<=_;rw[Qy];exact hd⟩,h2.ok.fb,h2.ok.rg,h2.ok.pc,h2.ok.st⟩,h2.bs,h2.bw⟩
  have pv:({ s with left:=s.left++ba d}:Mst).p=v.p:=by
   show({ s.p with left:=s.left++ba d}:Pst)=_;rw[hp,el,tN,hv]
   rfl
  refine(feed_x (p':=(v.run S).p) h (eo.trans h1) (by rw[el,ay,ay];omega) (fun w1 m1=>run_t hP m1 pv iv) (fun q=>?_)).mono ?_
  .rcases Iy hP.ok iv with r|r
   .rw[show(v.run S).p.over=(v.run S).over from rfl,r] at q
    cases q
   .have:=r.ok.ok.lf;show(ba (v.run S).left).size<=_;rw[ay];omega
  .rintro r w1 ⟨rfl,g⟩;exact⟨rfl,g.oE (jW _)⟩
theorem mend_t(hP:Prg w0 lo hi sb σ S)(h:Mac w0 w mb sb db s)(hp:s.p=u.p)(hu:LY S u):Calls Tryz.prog 28 #[.pointer (some ⟨mb,0,none⟩)] w (RepO' w0 mb sb db w s (u.end_ S)):=by
 unfold Ust.end_;have eo:s.over=u.over:=congrArg Pst.over hp;rcases hu with⟨h1,h2⟩|⟨h1,h2⟩
 .rw[QB h1];refine(end_o h (eo.trans h1)).mono ?_;rintro r w1 ⟨rfl,g⟩;refine⟨?_,g.oE (by rw[hp];exact jW u)⟩;show Ending.returned (.agg (fQ s.r.out true s.err s.status).toArray)=.returned (.agg (fQ u.out u.over u.err u.status).toArray);rw[show s.r.out=u.out from congrArg Pst.out hp,show s.err=u.err from congrArg Pst.err hp,show s.status=u.status from congrArg Pst.status hp,h1]
 .rw[Qw (by rw[h1];simp)];obtain⟨v,hv⟩:∃v:Ust,v={ u with ended:=true}:=⟨_,rfl⟩;rw[<-hv];have k:=h2.ok.ok;have iv:xQ S v:=by
   rw[hv];exact⟨⟨⟨k.sp,k.hd,k.ct,k.ot,k.fb,k.bt,k.bl,k.lf⟩,h2.ok.fb,h2.ok.rg,h2.ok.pc,h2.ok.st⟩,h2.bs,h2.bw⟩
  have pv:({ s with ended:=true}:Mst).p=v.p:=by
   show({ s.p with ended:=true}:Pst)=_;rw[hp,hv]
   rfl
  refine(end_x (p':=(v.run S).p) h (eo.trans h1) (fun w1 m1=>run_t hP m1 pv iv)).mono ?_;rintro r w1 ⟨rfl,g⟩;exact⟨rfl,g.oE (jW { v.run S with over:=true})⟩
end
def eE.qs:eE->Bool
 | .last=>true
 | _=>false
def aH.ahead(c:aH):Bool:=c.fw.any eE.qs||(c.what==110||c.what==78)
def fN.ahead(S:fN):Bool:=S.aD.any aH.ahead
theorem Ef{α:Type}(p:α->Bool)(l:List α){k:Nat}{a:α}(h:l[k]? = some a):(l.take (k+1)).any p=((l.take k).any p||p a):=by
 rw[Sc,h,List.any_append];simp
section
variable {w0 w w' wx:World}{mb sb db lo hi:Nat}{s s':Mst}{u:Ust}{σ:Sst}{S:fN}{ca co:Nat}{cv:List Value}{c:aH}
theorem Pf(hc:lO w0 σ S ca co cv c)(kx:Kp [] w0 wx):Calls Tryz.prog 39 #[.pointer (some ⟨ca,co,none⟩)] wx fun r w'=>r=.returned (.bool c.ahead)/\w'=wx:=by
 obtain⟨v0,h0,hA⟩:=hc.is.c0;have cell:∀(j:Nat) (v:Value),cv[j]? = some v->wx.cell? ⟨ca,co+j,none⟩=some v:=fun j v hv=>(kx.cell (p:=⟨ca,co+j,none⟩) hc.at_.lt (by simp)).trans (hc.at_.at_ j v hv);have hfx:∀f∈σ.fs,wx.heap[f.1]? = some f.2:=fun f hf=>(kx.block f.1 (aN (hc.fx f hf)) (by simp)).trans (hc.fx f hf);have hn:=hc.ok.adr;obtain⟨A,n,cc,hv0,hnl,hk⟩:∃A n cc,v0=.slice A n cc/\n=c.fw.length/\∀(k:Nat) (a:eE),c.fw[k]? = some a->∃p kd:Nat,A=some ⟨p,0,none⟩/\wx.cell? ⟨p,k*4,none⟩=some (.int .i64 kd)/\((kd:Int)==1)=a.qs:=by
  rcases hA with⟨e,rfl⟩|⟨p,cc,cells,rfl,hm,hcs⟩
  .have:c.fw=[]:=List.map_eq_nil_iff.1 e;exact⟨none,0,0,rfl,by rw[this];rfl,fun k a h=>by rw[this] at h;cases h⟩
  .refine⟨_,_,cc,rfl,Q7 _,fun k a h=>?_⟩;obtain⟨va,ha,hce⟩:=hcs k a.A (by rw[QX,h];rfl);have hh:=hfx _ hm;have ck:∀v,va[0]? = some v->wx.cell? ⟨p,k*4,none⟩=some v:=fun v hv=>by
    have:=hce 0 v hv;simp only[World.cell?,hh];rw[Nat.mul_comm];simpa using this
   cases a with
   | num x=>have ha:va=jq 0 x:=ha;subst ha;exact⟨p,0,rfl,ck _ rfl,rfl⟩
   | last=>have ha:va=jq 1 0:=ha;subst ha;exact⟨p,1,rfl,ck _ rfl,rfl⟩
   | pat q=>
    obtain⟨pb,g,o1,o2,ha,_⟩:=ha;subst ha;exact⟨p,2,rfl,ck _ rfl,rfl⟩
 subst hv0;have c0:wx.cell? ⟨ca,co,none⟩=some (.slice A n cc):=cell 0 _ h0;have c3:=cell 3 _ hc.is.c3;have HK:=hid hk;have HNL:=hid hnl;obtain⟨x,hx⟩:∃x,x=c.what:=⟨_,rfl⟩;rw[<-hx] at c3;have HX:=hid hx;have hn2:n<=2:=by omega
 have FIN:Hid (c.fw.any eE.qs=false->c.ahead=((x:Int)==110||(x:Int)==78)):=hid (fun q=>by
  unfold aH.ahead;rw[q,<-hx,Sv]
  congr 1
  .by_cases e:x=110
   .rw[e];rfl
   .rw[beq_eq_false_iff_ne.2 e,eq_comm,Qz];omega
  .by_cases e:x=78
   .rw[e];rfl
   .rw[beq_eq_false_iff_ne.2 e,eq_comm,Qz];omega)
 have FINT:Hid (c.fw.any eE.qs=true->c.ahead=true):=hid (fun q=>by unfold aH.ahead;rw[q];rfl);obtain⟨R,hR⟩:∃R,R=c.ahead:=⟨_,rfl⟩;rw[<-hR] at FIN FINT ⊢;clear hk hnl hx hR hn h0 hA cell hfx;go_enter Tryz.func39,Tryz.ntmps39
 go_wp2_with fail;go_loopw [9,3] (fun v _ wr=>∃k:Nat,k<=n/\v=.int .i64 k/\Hid ((c.fw.take k).any eE.qs=false)/\wr=wx) (fun v _ _=>3000-(intOf v).toNat)
 case atStart=>exact⟨0,by omega,rfl,hid rfl,rfl⟩
 case round=>
  obtain⟨k,hk,rfl,HN,rfl⟩:=hrel;by_cases hkn:k<n
  .obtain⟨a,ha⟩:∃a,c.fw[k]? = some a:=⟨_,QA (by rw[<-HNL.out];exact hkn)⟩;obtain⟨p,kd,rfl,hcl,hkd⟩:=HK.out k a ha;have hat:=Ef eE.qs c.fw ha;rw[HN.out,Sv] at hat;obtain⟨k1,hk1⟩:∃k1:Nat,k1=k+1:=⟨_,rfl⟩;have wr:=aQ k k1 hk1 (by omega);have HK1:=hid hk1;rw[<-hk1] at hat;clear hk1
   cases hl:a.qs with
   | true=>
    rw[hl] at hkd hat
    have HT:Hid (R=true):=hid (FINT.out (by
     obtain⟨y,h1,h2⟩:=List.any_eq_true.1 hat
     exact List.any_eq_true.2 ⟨y,Sh h1,h2⟩))
    clear hat hl;go_wp2_with fail;go_ret;exact⟨by rw[HT.out];rfl,rfl⟩
   | false=>
    rw[hl] at hkd hat;have HAT:=hid hat;clear hat hl;go_wp2_with fail;go_round
    case rel=>exact⟨k1,by have:=HK1.out;omega,by trivial,HAT,by trivial⟩
    case measure=>have:=HK1.out;simp[intOf];omega
  .have hkk:k=n:=by omega
   subst hkk;have hR2:=FIN.out (by have:=HN.out;rw[HNL.out,Rq] at this;exact this);have HR2:=hid hR2;clear hR2;by_cases e1:x=110
   .have q1:((x:Int)==110)=true:=by rw[e1];rfl
    rw[q1] at HR2;clear e1;go_wp2_with fail;go_ret;exact⟨by rw[HR2.out];rfl,rfl⟩
   .have q1:((x:Int)==110)=false:=by rw[Qz];omega
    rw[q1] at HR2;obtain⟨q,hq⟩:∃q,((x:Int)==78)=q:=⟨_,rfl⟩;rw[hq] at HR2;clear e1
    cases q
    .go_wp2_with fail;go_ret;exact⟨by rw[HR2.out];rfl,rfl⟩
    .go_wp2_with fail;go_ret;exact⟨by rw[HR2.out];rfl,rfl⟩
theorem Lv(hP:Prg w0 lo hi sb σ S)(kx:Kp [] w0 wx):Calls Tryz.prog 24 #[.pointer (some ⟨sb,0,none⟩)] wx fun r w'=>r=.returned (.bool S.ahead)/\w'=wx:=by
 have hsx:=hP.sc.aj kx (fun _ e=>by cases e);obtain⟨A,cc,e,_,_⟩:=aZ hsx.o4;have c1:=hsx.c1;rw[e,hP.pg.len] at c1;have hl:=hP.ok.cl
 have HC:Hid (∀(i:Nat) (c:aH),S.aD[i]? = some c->∃g,A=some ⟨g,0,none⟩/\Calls Tryz.prog 39 #[.pointer (some ⟨g,i*23,none⟩)] wx fun r w'=>r=.returned (.bool c.ahead)/\w'=wx):=hid (fun i c hc=>by
  obtain⟨g,cap,cv,hv,_,hT⟩:=hP.cmd hc;refine⟨g,?_,Pf hT kx⟩;rw[e] at hv
  injection hv)
 obtain⟨n,hn⟩:∃n,n=S.aD.length:=⟨_,rfl⟩;rw[<-hn] at c1 hl;have HN:=hid hn;obtain⟨R,hR⟩:∃R,R=S.ahead:=⟨_,rfl⟩;rw[<-hR];have HR:=hid hR;clear hn e hR;go_enter Tryz.func24,Tryz.ntmps24
 go_wp2_with fail;go_loopw [9] (fun v wr=>∃k:Nat,k<=n/\v=.int .i64 k/\Hid ((S.aD.take k).any aH.ahead=false)/\wr=wx) (fun v _=>3000-(intOf v).toNat)
 case atStart=>exact⟨0,by omega,rfl,hid rfl,rfl⟩
 case round=>
  obtain⟨k,hk,rfl,HA,rfl⟩:=hrel;by_cases hkn:k<n
  .obtain⟨c,hc⟩:∃c,S.aD[k]? = some c:=⟨_,QA (by rw[<-HN.out];exact hkn)⟩;obtain⟨g,rfl,hca⟩:=HC.out k c hc;have HCA:=hid hca;have hat:=Ef aH.ahead S.aD hc;rw[HA.out,Sv] at hat;obtain⟨k1,hk1⟩:∃k1:Nat,k1=k+1:=⟨_,rfl⟩;have wr:=aQ k k1 hk1 (by omega);have HK1:=hid hk1;rw[<-hk1] at hat;clear hk1 hca
   cases hl:c.ahead with
   | true=>
    rw[hl] at hat HCA
    have HT:Hid (R=true):=hid (by
     rw[HR.out];obtain⟨y,h1,h2⟩:=List.any_eq_true.1 hat
     exact List.any_eq_true.2 ⟨y,Sh h1,h2⟩)
    clear hat hl;go_wp2_with fail;refine HCA.out.mono ?_;rintro r w1 ⟨rfl,rfl⟩;go_wp2_with fail;go_ret;exact⟨by rw[HT.out];rfl,rfl⟩
   | false=>
    rw[hl] at hat HCA;have HAT:=hid hat;clear hat hl;go_wp2_with fail;refine HCA.out.mono ?_;rintro r w1 ⟨rfl,rfl⟩;go_wp2_with fail;go_round
    case rel=>exact⟨k1,by have:=HK1.out;omega,by trivial,HAT,by trivial⟩
    case measure=>have:=HK1.out;simp[intOf];omega
  .have hkk:k=n:=by omega
   subst hkk
   have HT:Hid (R=false):=hid (by
    rw[HR.out];have:=HA.out;rw[HN.out,Rq] at this
    exact this)
   go_wp2_with fail;go_ret;exact⟨by rw[HT.out];rfl,rfl⟩
theorem ust0_p(ah:Bool)(fb nf rb nr:Nat):(oh ah fb nf rb nr).p=(ua ah nf nr).p:=by
 unfold oh ua
 rfl
theorem Me(hP:Ak S)(ah:Bool):LY S (ua ah S.names.length S.ranges):=by
 refine .inr ⟨rfl,⟨⟨⟨QG _,QG _,QG _,QG _,fun t ht=>?_,fun t ht=>(by cases ht),QG _,by show 0+0<=_;omega⟩,by show(List.replicate _ _).length=_;simp,by show(List.replicate _ _).length=_;simp,QG _,QG _⟩,QG _,fun _=>rfl⟩⟩;replace ht:t∈List.replicate S.names.length []:=ht;rw[List.eq_of_mem_replicate ht];exact QD _
theorem Prg.aj(h:Prg w0 lo hi sb σ S)(k:Kp [] w0 w):Prg w lo hi sb σ S:=⟨h.sc.aj k (fun _ e=>by cases e),h.pg,h.ok,h.pw.aj k⟩
theorem Pb{lo lo' hi:Nat}{f:Bk}(h:Bk.ok lo hi f)(hl:lo'<=lo):Bk.ok lo' hi f:=⟨fun i p hp=>QC hl (h.lo i p hp),h.hi,h.ne⟩
theorem Mac.IU(h:Mac w w' mb sb db s)(k:Kp [] w0 w):Mac w0 w' mb sb db s:=by
 have hl:=k.size;refine⟨h.b,⟨k.trans h.r.kp,aU h.r.o2 hl,aU h.r.o3 hl,fun i v hv=>?_,aU h.r.o4 hl,aU h.r.o5 hl,h.r.md,Pb h.r.bk hl,h.r.fll⟩⟩;obtain⟨bs,h1,h2⟩:=h.r.ofl i v hv;exact⟨bs,h1,aU h2 hl⟩
structure Ed(w0 w:World)(eb mb sb db:Nat)(S:fN)(s:Mst)(u:Ust):Prop where
 p:s.p=u.p
 m:Mac w0 w mb sb db s
 e:w.cell? ⟨eb,0,none⟩=some (.pointer (some ⟨mb,0,none⟩))
 n:∀i,maB mb db s.r i≠some eb
 lo:w0.heap.size<=eb
 inv:LY S u
def Ed.blk(eb mb db:Nat)(s:Mst)(p:Nat):Prop:=p=eb\/∃i,maB mb db s.r i=some p
theorem start_x{ah:Bool}(hs:Scr lo hi w sb 0 σ)(hah:∀wx,Kp [] w wx->Calls Tryz.prog 24 #[.pointer (some ⟨sb,0,none⟩)] wx fun r w'=>r=.returned (.bool ah)/\Kp [] wx w')(hn:σ.ns.length<=2000)(hrg:σ.ranges<=2000):Calls Tryz.prog 12 #[.pointer (some ⟨sb,0,none⟩)] w fun r w'=>∃eb mb db fb rb,r=.returned (.pointer (some ⟨eb,0,none⟩))/\Mac w w' mb sb db (oh ah fb σ.ns.length rb σ.ranges)/\Bl w' eb [.pointer (some ⟨mb,0,none⟩)]/\(∀i,maB mb db (oh ah fb σ.ns.length rb σ.ranges).r i≠some eb)/\w.heap.size<=eb:=by
 have HN:=hid (new_v hs hah hn hrg);clear hah hs;go_enter Tryz.func12,Tryz.ntmps12
 go_wp2_with fail;refine HN.out.mono ?_;rintro r w1 ⟨mb,db,fb,rb,rfl,m1⟩;have M1:=hid m1;clear m1 HN;go_wp2_with fail;go_ret;exact⟨w1.heap.size,mb,db,fb,rb,rfl,M1.out.aj (Kp.alloc [] w1 _),Bl.alloc w1 [.pointer (some ⟨mb,0,none⟩)] _,(M1.out.eh (QD _)).2,M1.out.r.kp.size⟩
theorem AB(hP:Prg w0 lo hi sb σ S)(k:Kp [] w0 w):Calls Tryz.prog 12 #[.pointer (some ⟨sb,0,none⟩)] w fun r w'=>∃eb mb db s,r=.returned (.pointer (some ⟨eb,0,none⟩))/\Ed w0 w' eb mb sb db S s (ua S.ahead S.names.length S.ranges)/\Kp [] w w'/\∀p,Ed.blk eb mb db s p->w.heap.size<=p:=by
 have hPw:=hP.aj k;refine(start_x hPw.sc (fun wx kx=>(Lv hPw kx).mono fun r w' q=>⟨q.1,by rw[q.2];exact Kp.refl _ _⟩) (by rw[hP.pg.ns];exact hP.ok.nl) (by rw[hP.pg.rg];exact hP.ok.rl)).mono ?_;rintro r w1 ⟨eb,mb,db,fb,rb,rfl,m,be,hne,hlo⟩;rw[hP.pg.ns,hP.pg.rg] at m hne;refine⟨eb,mb,db,_,rfl,⟨ust0_p _ _ _ _ _,m.IU k,be.at_ 0 _ rfl,hne,QC k.size hlo,Me hP.ok _⟩,m.r.kp,?_⟩;rintro p (rfl|⟨i,hi⟩)
 .exact hlo
 .exact m.r.bk.lo i p hi
structure Lft(w0 w:World)(eb mb db:Nat)(s:Mst)(w':World)(s':Mst):Prop where
 kp:Kp [] w0 w'
 size:w.heap.size<=w'.heap.size
 from_:∀p,Ed.blk eb mb db s' p->Ed.blk eb mb db s p\/w.heap.size<=p
 same:∀p,p<w.heap.size->¬Ed.blk eb mb db s p->w'.heap[p]? = w.heap[p]?
theorem Ed.goes{eb:Nat}{u':Ust}(h:Ed w0 w eb mb sb db S s u)(g:di w0 mb sb db w s w' u'.p)(hi:LY S u'):∃s',Ed w0 w' eb mb sb db S s' u'/\Lft w0 w eb mb db s w' s':=by
 obtain⟨s',e,m,gr⟩:=g;have hlt:eb<w.heap.size:=World.block_lt_of_cell? _ _ h.e;have hn:∀i,maB mb db s'.r i≠some eb:=fun i q=>by
  rcases gr.from_ i eb q with⟨j,hj⟩|hj
  .exact h.n j hj
  .omega
 refine⟨s',⟨e,m,(World.cell?_of_block (a:=⟨eb,0,none⟩) (gr.same eb hlt h.n)).trans h.e,hn,h.lo,hi⟩,⟨m.r.kp,gr.size,?_,fun p hp hb=>gr.same p hp (fun i q=>hb (.inr ⟨i,q⟩))⟩⟩;rintro p (rfl|⟨i,hi⟩)
 .exact .inl (.inl rfl)
 .rcases gr.from_ i p hi with⟨j,hj⟩|hj
  .exact .inl (.inr ⟨j,hj⟩)
  .exact .inr hj
theorem Mac.same(h:Mac w0 w mb sb db s)(k:Kp [] w0 w')(hsz:w.heap.size<=w'.heap.size)(hb:∀i p,maB mb db s.r i=some p->w'.heap[p]? = w.heap[p]?):Mac w0 w' mb sb db s:=by
 refine⟨h.b.tL (hb 0 mb rfl),⟨k,ag h.r.o2 (fun p hp=>hb 2 p hp),ag h.r.o3 (fun p hp=>hb 3 p hp),fun i v hv=>?_,ag h.r.o4 (fun p hp=>hb 4 p hp),ag h.r.o5 (fun p hp=>hb 5 p hp),(hb 1 db rfl).trans h.r.md,⟨h.r.bk.lo,fun i p hp=>Qx (h.r.bk.hi i p hp) hsz,h.r.bk.ne⟩,h.r.fll⟩⟩;obtain⟨bs,h1,h2⟩:=h.r.ofl i v hv;exact⟨bs,h1,ag h2 (fun p hp=>hb (i+6) p (show(s.r.fl[i]?).bind Value.ownBlock=some p by rw[hv];exact hp))⟩
theorem Ed.lt{eb p:Nat}(h:Ed w0 w eb mb sb db S s u)(hp:Ed.blk eb mb db s p):p<w.heap.size:=by
 rcases hp with rfl|⟨i,hi⟩
 .exact World.block_lt_of_cell? _ _ h.e
 .exact h.m.r.bk.hi i p hi
theorem Ed.beside{eb ex mx dx:Nat}{sx:Mst}{ux:Ust}{Sx:fN}{sbx:Nat}(hx:Ed w0 w ex mx sbx dx Sx sx ux)(l:Lft w0 w eb mb db s w' s')(hd:∀p,Ed.blk ex mx dx sx p->¬Ed.blk eb mb db s p):Ed w0 w' ex mx sbx dx Sx sx ux/\∀p,Ed.blk ex mx dx sx p->¬Ed.blk eb mb db s' p:=by
 refine⟨⟨hx.p,hx.m.same l.kp l.size (fun i p hp=>l.same p (hx.lt (.inr ⟨i,hp⟩)) (hd p (.inr ⟨i,hp⟩))),(World.cell?_of_block (a:=⟨ex,0,none⟩) (l.same ex (hx.lt (.inl rfl)) (hd ex (.inl rfl)))).trans hx.e,hx.n,hx.lo,hx.inv⟩,fun p hp q=>?_⟩;rcases l.from_ p q with r|r
 .exact hd p hp r
 .have:=hx.lt hp;omega
theorem Ed.aj{eb:Nat}(h:Ed w0 w eb mb sb db S s u)(k:Kp [] w w'):Ed w0 w' eb mb sb db S s u:=
 ⟨h.p,h.m.aj k,(k.cell (p:=⟨eb,0,none⟩) (h.lt (.inl rfl)) (by simp)).trans h.e,h.n,h.lo,h.inv⟩
theorem Kg{eb:Nat}{d:List UInt8}(hP:Prg w0 lo hi sb σ S)(h:Ed w0 w eb mb sb db S s u)(hd:u.over=false->u.left.length+d.length+u.number<=281474976710656):Calls Tryz.prog 13 #[.pointer (some ⟨eb,0,none⟩),.string (ba d)] w fun r w'=>r=.returned (.agg (fQ (u.feed S d).1.out (u.feed S d).1.over (u.feed S d).1.err (u.feed S d).1.status).toArray)/\∃s',Ed w0 w' eb mb sb db S s' (u.feed S d).2/\Lft w0 w eb mb db s w' s':=by
 refine(efeed_v (p':=(u.feed S d).2.p) h.m h.e (fun wx mx=>mfeed_t hP mx h.p h.inv hd)).mono ?_;rintro r w1 ⟨rfl,g⟩;exact⟨rfl,h.goes g (On hP.ok h.inv hd)⟩
theorem end_t{eb:Nat}(hP:Prg w0 lo hi sb σ S)(h:Ed w0 w eb mb sb db S s u):Calls Tryz.prog 14 #[.pointer (some ⟨eb,0,none⟩)] w fun r w'=>r=.returned (.agg (fQ (u.end_ S).1.out (u.end_ S).1.over (u.end_ S).1.err (u.end_ S).1.status).toArray)/\∃s',Ed w0 w' eb mb sb db S s' (u.end_ S).2/\Lft w0 w eb mb db s w' s':=by
 refine(eend_v (p':=(u.end_ S).2.p) h.m h.e (fun wx mx=>mend_t hP mx h.p h.inv)).mono ?_;rintro r w1 ⟨rfl,g⟩;exact⟨rfl,h.goes g (end_inv h.inv)⟩
end
