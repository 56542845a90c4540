import Derived.Test.YtiahkfoojjpaaaaGreatDoorS28
set_option maxRecDepth 100000
set_option maxHeartbeats 16000000
set_option linter.all false
namespace Go.Proofs.YtiahkfoojjpaaaaGreatDoor
open Go.RowKit
structure UOk(u:Ust):Prop where
 sp:u.space.length<=4000
 hd:u.held.length<=4000
 ct:u.count<=200000
 ot:u.out.length<=u.count
 fb:∀t∈u.fb,t.length<=u.count
 bt:∀t∈u.br,t.length<=2000
 bl:u.br.length<=2001
 lf:u.left.length+u.number<=281474976710656
def dJ(w0:World)(mb sb db:Nat)(w:World)(s:Mst)(R:RU)(e:Ending)(w':World):Prop:=
 match R with
 | .ok u=>e=.returned (.tuple #[])/\di w0 mb sb db w s w' u.p
 | .error (E,u)=>e=iG E 0/\di w0 mb sb db w s w' u.p
theorem oS(E:Nat)(w:World):Calls Tryz.prog 128 #[.int .i64 E] w fun e w'=>e=iG E 0/\w'=w:=by
 go_enter Tryz.func128,Tryz.ntmps128
 go_wp2_with fail;exact⟨rfl,rfl,rfl⟩
section
variable {w0 w w' w2:World}{mb sb db:Nat}{s s':Mst}{u:Ust}
theorem add_f{c:Nat}{v:Value}{text:ByteArray}(c7:w.cell? ⟨mb,7,none⟩=some (.int .i64 c))(f7:w.frozen? ⟨mb,7,none⟩=false)(hc:200000<c+text.size+1)(hb:c+text.size+1<=1000000):Calls Tryz.prog 155 #[.pointer (some ⟨mb,5,none⟩),v,.string text] w fun r w'=>r=iG 10 0/\w'=w.setCell ⟨mb,7,none⟩ (.int .i64 ((c+text.size+1:Nat):Int)):=by
 obtain⟨t1,ht1⟩:∃t1:Nat,(text.size:Int)+1=(t1:Int):=⟨text.size+1,by omega⟩;obtain⟨t2,ht2⟩:∃t2:Nat,(c:Int)+(t1:Int)=(t2:Int):=⟨c+t1,by omega⟩;have q1:=aa t1 (by omega);have q2:=aa t2 (by omega);have g1:200000<t2:=by omega
 have e2:c+text.size+1=t2:=by omega
 rw[e2];clear hc hb e2;go_enter Tryz.func155,Tryz.ntmps155
 go_wp2_with fail;refine(oS 10 _).mono ?_;rintro r w1 ⟨rfl,rfl⟩;go_wp2_with fail;exact⟨rfl,rfl,rfl⟩
theorem Pv{text:ByteArray}(h:Mac w0 w mb sb db s)(hc:s.count+text.size+1<=200000)(hx:s.r.out.length<=s.count):Calls Tryz.prog 112 #[.pointer (some ⟨mb,5,none⟩),.string text] w fun r w'=>r=.returned (.tuple #[])/\∃v',Mac w0 w' mb sb db { s with count:=s.count+text.size+1,r:={ s.r with vo:=v',out:=s.r.out++text.data.toList++[10]}}/\Gr mb db w s.r w' { s.r with vo:=v',out:=s.r.out++text.data.toList++[10]}:=by
 have c5:=h.b.at_ 5 _ rfl;have H:=hid (add_v (text:=text) (h.b.at_ 7 _ rfl) (h.b.free 7) h.r.o2 (fun e=>h.JD 2 (by omega) e) h.r.kp.size hc hx);go_enter Tryz.func112,Tryz.ntmps112
 go_wp2_with fail;refine H.out.mono ?_;rintro r w1 ⟨v',rfl,A⟩;have d5:=(A.cell 5 (by omega)).trans c5;have f5:=(A.free 5).trans (h.b.free 5);obtain⟨m1,g1⟩:=h.told A;obtain⟨A',c',ev,_,_⟩:=aZ A.row;clear A;subst ev;go_wp2_with fail;go_end0;exact⟨rfl,_,m1,g1⟩
theorem Pw{text:ByteArray}(h:Mac w0 w mb sb db s)(hc:200000<s.count+text.size+1)(hb:s.count+text.size+1<=1000000):Calls Tryz.prog 112 #[.pointer (some ⟨mb,5,none⟩),.string text] w fun r w'=>r=iG 10 0/\Mac w0 w' mb sb db { s with count:=s.count+text.size+1}/\Gr mb db w s.r w' s.r:=by
 have c5:=h.b.at_ 5 _ rfl;have H:=hid (add_f (v:=s.r.vo) (text:=text) (h.b.at_ 7 _ rfl) (h.b.free 7) hc hb);have M:=hid (h.set (s':={ s with count:=s.count+text.size+1}) 7 (.int .i64 ((s.count+text.size+1:Nat):Int)) (by omega) rfl rfl);clear h hc hb;go_enter Tryz.func112,Tryz.ntmps112
 go_wp2_with fail;refine H.out.mono ?_;rintro r w1 ⟨rfl,rfl⟩;go_wp2_with fail;exact⟨rfl,rfl,M.out,Gr.set _ _ _ _⟩
theorem js{t:List UInt8}(h:Mac w0 w mb sb db s)(hp:s.p=u.p)(hu:UOk u)(ht:t.length<=20000):Calls Tryz.prog 112 #[.pointer (some ⟨mb,5,none⟩),.string (ba t)] w (dJ w0 mb sb db w s (u.tell t)):=by
 have hc:s.count=u.count:=congrArg Pst.count hp;have ho:s.r.out=u.out:=congrArg Pst.out hp;have h1:=hu.ct;have h2:=hu.ot;unfold Ust.tell;by_cases hb:200000<u.count+t.length+1
 .rw[QB hb];refine(Pw h (by rw[hc,ay];exact hb) (by rw[hc,ay];omega)).mono ?_;rintro r w1 ⟨rfl,m1,g1⟩;refine⟨rfl,_,?_,m1,g1⟩;show({ s.p with count:=s.count+(ba t).size+1}:Pst)=_;rw[hp,hc,ay]
  rfl
 .rw[Qw hb];refine(Pv h (by rw[hc,ay];omega) (by rw[ho,hc];exact h2)).mono ?_;rintro r w1 ⟨rfl,v',m1,g1⟩;refine⟨rfl,_,?_,m1,g1⟩;show({ s.p with count:=s.count+(ba t).size+1,out:=s.r.out++(ba t).data.toList++[10]}:Pst)=_;rw[hp,hc,ay,eN,ho]
  rfl
end
def yb(s:Mst)(u1:Ust)(vo:Value):Mst:={ s with count:=u1.count,r:={ s.r with vo:=vo,out:=u1.out}}
theorem UOk.tell{u u':Ust}{t:List UInt8}(h:UOk u)(e:u.tell t=.ok u'):UOk u'/\u'={ u with count:=u'.count,out:=u'.out}:=by
 unfold Ust.tell at e;split at e
 .cases e
 .rename_i hc;injection e with e;subst e;have h1:=h.ot;refine⟨⟨h.sp,h.hd,by show u.count+t.length+1<=_;omega,by show(u.out++t++[10]).length<=u.count+t.length+1;simp;omega,fun x hx=>by have:=h.fb x hx;show _<=u.count+t.length+1;omega,h.bt,h.bl,h.lf⟩,rfl⟩
theorem Mp{u u':Ust}{t:List UInt8}{E:Nat}(e:u.tell t=.error (E,u')):E=10/\u'={ u with count:=u.count+t.length+1}:=by
 unfold Ust.tell at e;split at e
 .injection e with e;injection e with e1 e2;exact⟨e1.symm,e2.symm⟩
 .cases e
def noBrR:RU->RU
 | .error e=>.error e
 | .ok u1=>.ok { u1 with br:=[]}
theorem nT(u:Ust):u.brought=noBrR (Ust.jy u.br u):=by
 unfold Ust.brought
 cases Ust.jy u.br u<;>rfl
section
variable {w0 w w' w2:World}{mb sb db:Nat}{s s':Mst}{u:Ust}
theorem di.oE{p p':Pst}(g:di w0 mb sb db w s w' p)(e:p=p'):di w0 mb sb db w s w' p':=e ▸ g
theorem eU(h:Mac w0 w mb sb db s)(hp:s.p=u.p)(hu:UOk u):Calls Tryz.prog 118 #[.pointer (some ⟨mb,0,none⟩)] w (dJ w0 mb sb db w s u.brought):=by
 have hbr:s.r.br=u.br.map ba:=congrArg Pst.br hp;have hc:s.count=u.count:=congrArg Pst.count hp;have ho:s.r.out=u.out:=congrArg Pst.out hp;have hbl:=hu.bl;obtain⟨A,c,e,_,_⟩:=aZ h.r.o5;have c16:=h.b.at_ 16 _ rfl;rw[e,hbr,Q7] at c16;obtain⟨R,hR⟩:∃R,R=Ust.jy u.br u:=⟨_,rfl⟩;have HBT:Hid (u.brought=noBrR R):=hid (by rw[hR];exact nT u);have e0:yb s u s.r.vo=s:=by unfold yb;rw[<-hc,<-ho]
 have HS:Hid (Mac w0 w mb sb db (yb s u s.r.vo)/\Gr mb db w s.r w (yb s u s.r.vo).r):=hid (by rw[e0];exact⟨h,Gr.refl _ _ _ _⟩);have HU:Hid (u={ u with count:=u.count,out:=u.out}/\UOk u):=hid ⟨rfl,hu⟩;have HR:Hid (R=Ust.jy (u.br.drop 0) u):=hid hR;have HP:=hid hp;have HE:=hid (And.intro e hbr);obtain⟨n,hn⟩:∃n,n=u.br.length:=⟨_,rfl⟩;rw[<-hn] at c16 hbl;have HNN:=hid hn;clear hR e0 hp e hbr hc ho h hu hn;go_enter Tryz.func118,Tryz.ntmps118
 go_wp2_with fail;go_loopw [9] (fun v wr=>∃(j:Nat) (u1:Ust) (vo:Value),j<=n/\v=.int .i64 j/\Hid (Mac w0 wr mb sb db (yb s u1 vo)/\Gr mb db w s.r wr (yb s u1 vo).r)/\Hid (u1={ u with count:=u1.count,out:=u1.out}/\UOk u1)/\Hid (R=Ust.jy (u.br.drop j) u1)) (fun v _=>3000-(intOf v).toNat)
 case atStart=>exact⟨0,u,s.r.vo,QG _,rfl,HS,hid ⟨rfl,HU.out.2⟩,HR⟩
 case round=>
  clear HS HU HR c16;obtain⟨j,u1,vo,hj,rfl,HS,HU,HR⟩:=hrel;by_cases hjl:j<n
  case neg=>
   have hjn:j=n:=by omega
   subst hjn;have c16:=HS.out.1.b.at_ 16 _ rfl;have f16:=HS.out.1.b.free 16;have G:=hid HS.out.1.noBr;go_wp2_with fail;go_end0;have hR:=HR.out;rw[HNN.out,Sy] at hR;rw[HBT.out,hR];obtain⟨s9,e9,m9,g9⟩:=G.out;refine⟨rfl,s9,e9.trans ?_,m9,HS.out.2.trans g9⟩;show({ (yb s u1 vo).p with br:=[]}:Pst)=_;have e1:(yb s u1 vo).p={ s.p with count:=u1.count,out:=u1.out}:=rfl;rw[e1,HP.out,HU.out.1]
   rfl
  case pos=>
  have hjl':j<u.br.length:=by rw[<-HNN.out];exact hjl
  obtain⟨t,ht⟩:∃t,u.br[j]? = some t:=⟨_,QA hjl'⟩;have hd:u.br.drop j=t::u.br.drop (j+1):=by
   rw[QW hjl']
   congr 1
   have:=QA hjl';rw[ht] at this;injection this with this;exact this.symm
  have htl:t.length<=20000:=by
   have:=HU.out.2.bt t (by rw[HU.out.1];exact QM ht);omega
  have hR:=HR.out;rw[hd] at hR;unfold Ust.jy at hR;obtain⟨g,cap,ev⟩:=fY (w:=wr) HS.out.1.r.o5 (by show 0<s.r.br.length;rw[HE.out.2,Q7];omega);have o5:=HS.out.1.r.o5;rw[ev] at o5;have p0:wr.cell? ⟨g,j,none⟩=some (.string (ba t)):=by
   rw[o5.cellAt j (by show j<s.r.br.length*1;rw[HE.out.2,Q7];omega)];show(s.r.br.map Value.string)[j]? = _;rw[HE.out.2,QX,QX,ht]
   rfl
  have hA:A=some ⟨g,0,none⟩:=by
   have q:s.r.vb=.slice (some ⟨g,0,none⟩) s.r.br.length cap:=ev;rw[HE.out.1] at q;injection q with q
  subst hA;clear o5 ev hd ht hjl';have hc1:(yb s u1 vo).count=u1.count:=rfl
  cases hT:u1.tell t with
  | error q=>
   obtain⟨E,u2⟩:=q;rw[hT] at hR;obtain⟨rfl,hu2⟩:=Mp hT;have hbig:200000<(yb s u1 vo).count+(ba t).size+1:=by
    rw[hc1,ay];unfold Ust.tell at hT;split at hT
    .assumption
    .cases hT
   have H:=hid (Pw HS.out.1 hbig (by rw[hc1,ay];have:=HU.out.2.ct;omega));have HN:=hid hR;have HU2:=hid hu2;clear hR hT hbig hu2;go_wp2_with fail;refine H.out.mono ?_;rintro r w2 ⟨rfl,m2,g2⟩;have M2:=hid (And.intro m2 g2);clear m2 g2;go_wp2_with fail;refine⟨rfl,?_⟩;rw[HBT.out,HN.out];refine⟨rfl,_,?_,M2.out.1,HS.out.2.trans M2.out.2⟩;show({ s.p with count:=u1.count+(ba t).size+1,out:=u1.out}:Pst)=_;rw[HP.out,HU2.out,HU.out.1,ay]
   rfl
  | ok u2=>
   rw[hT] at hR;dsimp only at hR;obtain⟨hok2,heq2⟩:=HU.out.2.tell hT;have hu2:u2={ u1 with count:=u1.count+t.length+1,out:=u1.out++t++[10]}/\¬200000<u1.count+t.length+1:=by
    unfold Ust.tell at hT;split at hT
    .cases hT
    .rename_i hn;injection hT with hT;exact⟨hT.symm,hn⟩
   have H:=hid (Pv (text:=ba t) HS.out.1 (by rw[hc1,ay];omega) HU.out.2.ot);have HN:=hid hR;have HU2:=hid hu2;have HOK:=hid hok2;clear hR hT hu2 hok2 heq2;go_wp2_with fail;refine H.out.mono ?_;rintro r w2 ⟨rfl,v2,m2,g2⟩;have e2:({ yb s u1 vo with count:=(yb s u1 vo).count+(ba t).size+1,r:={ (yb s u1 vo).r with vo:=v2,out:=(yb s u1 vo).r.out++(ba t).data.toList++[10]}}:Mst)=yb s u2 v2:=by
    rw[HU2.out.1,ay,eN]
    rfl
   rw[e2] at m2;have M2:Hid (Mac w0 w2 mb sb db (yb s u2 v2)/\Gr mb db w s.r w2 (yb s u2 v2).r):=hid ⟨m2,HS.out.2.trans (by rw[<-e2];exact g2)⟩;have U2:Hid (u2={ u with count:=u2.count,out:=u2.out}/\UOk u2):=hid ⟨by rw[HU2.out.1,HU.out.1],HOK.out⟩;clear m2 g2 e2;go_wp2_with fail;go_round
   case rel=>exact⟨j+1,u2,v2,by omega,rfl,M2,U2,HN⟩
   case measure=>simp[intOf];omega
end
theorem UOk.jy:∀{l:List (List UInt8)} {u u':Ust},UOk u->Ust.jy l u=.ok u'->UOk u'/\u'={ u with count:=u'.count,out:=u'.out}
 | [],u,u',h,e=>by
  injection e with e;subst e;exact⟨h,rfl⟩
 | t::l,u,u',h,e=>by
  unfold Ust.jy at e;split at e
  .cases e
  .rename_i u1 h1;obtain⟨q1,q2⟩:=h.tell h1;obtain⟨q3,q4⟩:=q1.jy e;refine⟨q3,?_⟩;rw[q4];show({ u1 with count:=u'.count,out:=u'.out}:Ust)=_;rw[q2]
theorem UOk.brought{u u':Ust}(h:UOk u)(e:u.brought=.ok u'):UOk u'/\u'={ u with count:=u'.count,out:=u'.out,br:=[]}:=by
 rw[nT] at e
 cases h1:Ust.jy u.br u with
 | error q=>rw[h1] at e;cases e
 | ok u1=>
  rw[h1] at e;injection e with e;subst e;obtain⟨q1,q2⟩:=h.jy h1;refine⟨⟨q1.sp,q1.hd,q1.ct,q1.ot,q1.fb,fun t ht=>(by cases ht),by show 0<=2001;omega,q1.lf⟩,?_⟩;rw[q2]
theorem UOk.fj{u u':Ust}{q:Bool}(h:UOk u)(e:u.fj q=.ok u'):UOk u'/\u'={ u with count:=u'.count,out:=u'.out,br:=[]}:=by
 unfold Ust.fj at e
 cases q
 .rw[Qw (by simp)] at e
  cases h1:u.tell u.space with
  | error q=>rw[h1] at e;cases e
  | ok u1=>
   rw[h1] at e;obtain⟨q1,q2⟩:=h.tell h1;obtain⟨q3,q4⟩:=q1.brought e;refine⟨q3,?_⟩;rw[q4];show({ u1 with count:=u'.count,out:=u'.out,br:=[]}:Ust)=_;rw[q2]
 .rw[QB rfl] at e;exact h.brought e
theorem UOk.aR{u:Ust}(h:UOk u)(wn:Wn):UOk { u with aR:=wn}:=⟨h.sp,h.hd,h.ct,h.ot,h.fb,h.bt,h.bl,h.lf⟩
section
variable {w0 w w' w2:World}{mb sb db lo hi:Nat}{s s':Mst}{u:Ust}{σ:Sst}
theorem dJ.pre{w1:World}{R:RU}{e:Ending}(k:Kp [] w w1)(h:dJ w0 mb sb db w1 s R e w'):dJ w0 mb sb db w s R e w':=by
 cases R with
 | ok u=>exact⟨h.1,h.2.pre k⟩
 | error q=>exact⟨h.1,h.2.pre k⟩
theorem dJ.after{R:RU}{e:Ending}(g:Gr mb db w s.r w' s'.r)(h:dJ w0 mb sb db w' s' R e w2):dJ w0 mb sb db w s R e w2:=by
 cases R with
 | ok u=>
  obtain⟨h1,s2,h2,h3,h4⟩:=h;exact⟨h1,s2,h2,h3,g.trans h4⟩
 | error q=>
  obtain⟨h1,s2,h2,h3,h4⟩:=h;exact⟨h1,s2,h2,h3,g.trans h4⟩
theorem yd(h:Mac w0 w mb sb db s)(hs:Scr lo hi w0 sb 0 σ)(hp:s.p=u.p)(hu:UOk u):Calls Tryz.prog 122 #[.pointer (some ⟨mb,0,none⟩)] w (dJ w0 mb sb db w s (u.fj σ.quiet)):=by
 have hq:=(hs.aj h.r.kp (fun _ e=>by cases e)).c0;have c0:=h.b.at_ 0 _ rfl;have c9:=h.b.at_ 9 _ rfl;have hsp:s.space=ba u.space:=congrArg Pst.space hp;rw[hsp] at c9;have hl:=hu.sp;have TT:=js (t:=u.space) (h.aj (Kp.drew [] w)) hp hu (by omega);unfold Ust.fj
 cases hqq:σ.quiet
 .rw[hqq] at hq;rw[Qw (by simp)]
  cases hT:u.tell u.space with
  | error q=>
   obtain⟨E,u1⟩:=q;rw[hT] at TT;have HT:=hid TT;clear TT hT;go_enter Tryz.func122,Tryz.ntmps122
   go_wp2_with fail;go_region_dies
   refine HT.out.mono ?_;rintro r w1 ⟨rfl,g1⟩;exact⟨rfl,rfl,g1.pre (Kp.drew [] w)⟩
  | ok u1=>
   rw[hT] at TT;have HT:=hid TT;have HU:=hid (hu.tell hT).1;clear TT hT;go_enter Tryz.func122,Tryz.ntmps122
   go_wp2_with fail;go_region_with (go_at_call 112;refine HT.out.mono ?_;rintro r w1 ⟨rfl,g1⟩)
   go_wp2_with fail;obtain⟨s1,e1,m1,gr1⟩:=g1;refine(eU m1 e1 HU.out).mono ?_;intro r w2 hr
   cases hB:u1.brought with
   | error q=>
    obtain⟨E,u2⟩:=q;rw[hB] at hr;obtain⟨rfl,s2,e2,m2,gr2⟩:=hr;go_wp2_with fail;exact⟨rfl,rfl,s2,e2,m2,(Gr.dj (Kp.drew [] w) (fun _ e=>by cases e)).trans (gr1.trans gr2)⟩
   | ok u2=>
    rw[hB] at hr;obtain⟨rfl,s2,e2,m2,gr2⟩:=hr;go_wp2_with fail;go_end0;rw[hB];exact⟨rfl,s2,e2,m2,(Gr.dj (Kp.drew [] w) (fun _ e=>by cases e)).trans (gr1.trans gr2)⟩
 .rw[hqq] at hq;rw[QB rfl];go_enter Tryz.func122,Tryz.ntmps122
  go_wp2_with fail;refine(eU h hp hu).mono ?_;intro r w2 hr
  cases hB:u.brought with
  | error q=>
   obtain⟨E,u2⟩:=q;rw[hB] at hr;obtain⟨rfl,g2⟩:=hr;go_wp2_with fail;exact⟨rfl,rfl,g2⟩
  | ok u2=>
   rw[hB] at hr;obtain⟨rfl,g2⟩:=hr;go_wp2_with fail;go_end0;rw[hB];exact⟨rfl,g2⟩
end
structure Cu(w0:World)(ca co:Nat)(cv:List Value):Prop where
 lt:ca<w0.heap.size
 at_:∀(j:Nat) (v:Value),cv[j]? = some v->w0.cell? ⟨ca,co+j,none⟩=some v
section
variable {w0 w w' w2:World}{mb sb db lo hi:Nat}{s s':Mst}{u:Ust}{σ:Sst}{ca co:Nat}{cv:List Value}
theorem Cu.now(h:Cu w0 ca co cv)(m:Mac w0 w mb sb db s){j:Nat}{v:Value}(hj:cv[j]? = some v):w.cell? ⟨ca,co+j,none⟩=some v:=(m.r.kp.cell (p:=⟨ca,co+j,none⟩) h.lt (by simp)).trans (h.at_ j v hj)
theorem dJ.set{e:Ending}{u2:Ust}(h:Mac w0 w mb sb db s)(j:Nat)(v:Value)(hj:j<20)(hr:s'.r=s.r)(hv:(Fy sb db s).set j v=Fy sb db s')(he:e=.returned (.tuple #[]))(hp:s'.p=u2.p):dJ w0 mb sb db w s (.ok u2) e (w.setCell ⟨mb,j,none⟩ v):=
 ⟨he,(di.set h j v hj hr hv).oE hp⟩
theorem tE(h:Mac w0 w mb sb db s)(hs:Scr lo hi w0 sb 0 σ)(hp:s.p=u.p)(hu:UOk u):Calls Tryz.prog 127 #[.pointer (some ⟨mb,0,none⟩)] w (dJ w0 mb sb db w s (u.eZ σ.quiet)):=by
 have TE:=yd h hs hp hu;unfold Ust.eZ;obtain⟨R,hR⟩:∃R,R=u.fj σ.quiet:=⟨_,rfl⟩;rw[<-hR] at TE ⊢;have HT:=hid TE;clear TE hR;go_enter Tryz.func127,Tryz.ntmps127
 go_wp2_with fail;refine HT.out.mono ?_;intro r w1 hr
 cases R with
 | error q=>
  obtain⟨E,u1⟩:=q;obtain⟨rfl,g1⟩:=hr;go_wp2_with fail;exact⟨rfl,rfl,g1⟩
 | ok u1=>
  obtain⟨rfl,s1,e1,m1,gr1⟩:=hr;have c12:=m1.b.at_ 12 _ rfl;have f12:=m1.b.free 12;have hst:=gR (P:=Tryz.prog) (v:=bwV) c12 f12 rfl;go_wp2_with fail;go_end0;refine⟨rfl,{ s1 with aR:=bwV},?_,m1.set 12 bwV (by omega) rfl rfl,gr1.trans (Gr.set _ _ _ _)⟩;show({ s1.p with aR:=bwV}:Pst)=_;rw[e1]
  rfl
theorem fq(h:Mac w0 w mb sb db s)(hp:s.p=u.p)(hu:UOk u):Calls Tryz.prog 113 #[.pointer (some ⟨mb,0,none⟩)] w (dJ w0 mb sb db w s (u.aO)):=by
 have TE:=eU h hp hu;unfold Ust.aO;obtain⟨R,hR⟩:∃R,R=u.brought:=⟨_,rfl⟩;rw[<-hR] at TE ⊢;have HT:=hid TE;clear TE hR;go_enter Tryz.func113,Tryz.ntmps113
 go_wp2_with fail;refine HT.out.mono ?_;intro r w1 hr
 cases R with
 | error q=>
  obtain⟨E,u1⟩:=q;obtain⟨rfl,g1⟩:=hr;go_wp2_with fail;exact⟨rfl,rfl,g1⟩
 | ok u1=>
  obtain⟨rfl,s1,e1,m1,gr1⟩:=hr;have c12:=m1.b.at_ 12 _ rfl;have f12:=m1.b.free 12;have hst:=gR (P:=Tryz.prog) (v:=bwV) c12 f12 rfl;go_wp2_with fail;go_end0;refine⟨rfl,{ s1 with aR:=bwV},?_,m1.set 12 bwV (by omega) rfl rfl,gr1.trans (Gr.set _ _ _ _)⟩;show({ s1.p with aR:=bwV}:Pst)=_;rw[e1]
  rfl
theorem xk{st:Nat}(h:Mac w0 w mb sb db s)(hs:Scr lo hi w0 sb 0 σ)(hp:s.p=u.p)(hu:UOk u):Calls Tryz.prog 121 #[.pointer (some ⟨mb,0,none⟩),.int .i64 st] w (dJ w0 mb sb db w s (u.ic σ.quiet st)):=by
 have TE:=tE h hs hp hu;unfold Ust.ic;obtain⟨R,hR⟩:∃R,R=u.eZ σ.quiet:=⟨_,rfl⟩;rw[<-hR] at TE ⊢;have HT:=hid TE;clear TE hR;go_enter Tryz.func121,Tryz.ntmps121
 go_wp2_with fail;refine HT.out.mono ?_;intro r w1 hr
 cases R with
 | error q=>
  obtain⟨E,u1⟩:=q;obtain⟨rfl,g1⟩:=hr;go_wp2_with fail;exact⟨rfl,rfl,g1⟩
 | ok u1=>
  obtain⟨rfl,s1,e1,m1,gr1⟩:=hr;have c17:=m1.b.at_ 17 _ rfl;have f17:=m1.b.free 17;have c19:=m1.b.at_ 19 _ rfl;have f19:=m1.b.free 19;go_wp2_with fail;go_end0;have m2:=m1.set (s':={ s1 with over:=true}) 17 (.bool true) (by omega) rfl rfl;have m3:=m2.set (s':={ s1 with over:=true,status:=st}) 19 (.int .i64 st) (by omega) rfl rfl;refine⟨rfl,_,?_,m3,gr1.trans ((Gr.set _ _ _ _).trans (Gr.set _ _ _ _))⟩;show({ s1.p with over:=true,status:=st}:Pst)=_;rw[e1]
  rfl
theorem drop_t{cp:Value}(h:Mac w0 w mb sb db s)(hp:s.p=u.p)(hu:UOk u):Calls Tryz.prog 65 #[.pointer (some ⟨mb,0,none⟩),cp] w (dJ w0 mb sb db w s (u.aO)):=by
 have TE:=fq h hp hu;obtain⟨R,hR⟩:∃R,R=u.aO:=⟨_,rfl⟩;rw[<-hR] at TE ⊢;have HT:=hid TE;clear TE hR;go_enter Tryz.func65,Tryz.ntmps65
 go_wp2_with fail;refine HT.out.mono ?_;intro r w1 hr
 cases R with
 | error q=>
  obtain⟨E,u1⟩:=q;obtain⟨rfl,g1⟩:=hr;go_wp2_with fail;exact⟨rfl,rfl,g1⟩
 | ok u1=>
  obtain⟨rfl,g1⟩:=hr;go_wp2_with fail;go_end0;exact⟨rfl,g1⟩
theorem quit_t{st:Nat}(h:Mac w0 w mb sb db s)(hs:Scr lo hi w0 sb 0 σ)(hc:Cu w0 ca co cv)(h8:cv[8]? = some (.int .i64 st))(hp:s.p=u.p)(hu:UOk u):Calls Tryz.prog 78 #[.pointer (some ⟨mb,0,none⟩),.pointer (some ⟨ca,co,none⟩)] w (dJ w0 mb sb db w s (u.ic σ.quiet st)):=by
 have hst:=hc.now h h8;have TE:=xk (st:=st) h hs hp hu;obtain⟨R,hR⟩:∃R,R=u.ic σ.quiet st:=⟨_,rfl⟩;rw[<-hR] at TE ⊢;have HT:=hid TE;clear TE hR;go_enter Tryz.func78,Tryz.ntmps78
 go_wp2_with fail;refine HT.out.mono ?_;intro r w1 hr
 cases R with
 | error q=>
  obtain⟨E,u1⟩:=q;obtain⟨rfl,g1⟩:=hr;go_wp2_with fail;exact⟨rfl,rfl,g1⟩
 | ok u1=>
  obtain⟨rfl,g1⟩:=hr;go_wp2_with fail;go_end0;exact⟨rfl,g1⟩
theorem print_t{cp:Value}(h:Mac w0 w mb sb db s)(hp:s.p=u.p)(hu:UOk u):Calls Tryz.prog 74 #[.pointer (some ⟨mb,0,none⟩),cp] w (dJ w0 mb sb db w s (u.tell (u.space))):=by
 have c9:=h.b.at_ 9 _ rfl;have hsp:s.space=ba u.space:=congrArg Pst.space hp;rw[hsp] at c9;have hl:=hu.sp;have TE:=js (t:=u.space) (h.aj (Kp.drew [] w)) hp hu (by omega);obtain⟨R,hR⟩:∃R,R=u.tell (u.space):=⟨_,rfl⟩;rw[<-hR] at TE ⊢;have HT:=hid TE;clear TE hR
 cases R with
 | error q=>
  obtain⟨E,u1⟩:=q;go_enter Tryz.func74,Tryz.ntmps74
  go_wp2_with fail;go_region_dies
  refine HT.out.mono ?_;rintro r w1 ⟨rfl,g1⟩;exact⟨rfl,rfl,g1.pre (Kp.drew [] w)⟩
 | ok u1=>
  go_enter Tryz.func74,Tryz.ntmps74
  go_wp2_with fail;go_region_with (go_at_call 112;refine HT.out.mono ?_;rintro r w1 ⟨rfl,g1⟩)
  go_wp2_with fail;go_end0;exact⟨rfl,g1.pre (Kp.drew [] w)⟩
theorem NU{t:List UInt8}(h:Mac w0 w mb sb db s)(hc:Cu w0 ca co cv)(h10:cv[10]? = some (.string (ba t)))(ht:t.length<=2000)(hp:s.p=u.p)(hu:UOk u):Calls Tryz.prog 61 #[.pointer (some ⟨mb,0,none⟩),.pointer (some ⟨ca,co,none⟩)] w (dJ w0 mb sb db w s (u.tell (t))):=by
 have c10:=hc.now h h10;have TE:=js (t:=t) (h.aj (Kp.drew [] w)) hp hu (by omega);obtain⟨R,hR⟩:∃R,R=u.tell (t):=⟨_,rfl⟩;rw[<-hR] at TE ⊢;have HT:=hid TE;clear TE hR
 cases R with
 | error q=>
  obtain⟨E,u1⟩:=q;go_enter Tryz.func61,Tryz.ntmps61
  go_wp2_with fail;go_region_dies
  refine HT.out.mono ?_;rintro r w1 ⟨rfl,g1⟩;exact⟨rfl,rfl,g1.pre (Kp.drew [] w)⟩
 | ok u1=>
  go_enter Tryz.func61,Tryz.ntmps61
  go_wp2_with fail;go_region_with (go_at_call 112;refine HT.out.mono ?_;rintro r w1 ⟨rfl,g1⟩)
  go_wp2_with fail;go_end0;exact⟨rfl,g1.pre (Kp.drew [] w)⟩
theorem get_t{cp:Value}(h:Mac w0 w mb sb db s)(hp:s.p=u.p):Calls Tryz.prog 67 #[.pointer (some ⟨mb,0,none⟩),cp] w (dJ w0 mb sb db w s (.ok { u with space:=u.held})):=by
 have c9:=h.b.at_ 9 _ rfl;have c10:=h.b.at_ 10 _ rfl;have f9:=h.b.free 9
 have G:=hid (dJ.set (e:=.returned (.tuple #[])) (u2:={ u with space:=u.held}) (s':={ s with space:=s.held}) h 9 (.string s.held) (by omega) rfl rfl rfl (by
  show({ s.p with space:=s.p.held}:Pst)=_;rw[hp]
  rfl))
 clear h;go_enter Tryz.func67,Tryz.ntmps67
 go_wp2_with fail;go_end0;exact G.out
theorem hold_t{cp:Value}(h:Mac w0 w mb sb db s)(hp:s.p=u.p):Calls Tryz.prog 69 #[.pointer (some ⟨mb,0,none⟩),cp] w (dJ w0 mb sb db w s (.ok { u with held:=u.space})):=by
 refine(hold_v h).mono ?_;rintro r w1 ⟨rfl,g⟩;refine⟨rfl,g.oE ?_⟩;show({ s.p with held:=s.p.space}:Pst)=_;rw[hp]
 rfl
theorem O7{k:Nat}(h:Mac w0 w mb sb db s)(hc:Cu w0 ca co cv)(h5:cv[5]? = some (.int .i64 k))(hp:s.p=u.p):Calls Tryz.prog 58 #[.pointer (some ⟨mb,0,none⟩),.pointer (some ⟨ca,co,none⟩)] w (dJ w0 mb sb db w s (.ok { u with pc:=k})):=by
 refine(O0 h (hc.now h h5)).mono ?_;rintro r w1 ⟨rfl,g⟩;refine⟨rfl,g.oE ?_⟩;show({ s.p with pc:=k}:Pst)=_;rw[hp]
 rfl
theorem enter_t{cp:Value}(h:Mac w0 w mb sb db s)(hp:s.p=u.p):Calls Tryz.prog 57 #[.pointer (some ⟨mb,0,none⟩),cp] w (dJ w0 mb sb db w s (.ok u)):=by
 refine(enter_v h).mono ?_;rintro r w1 ⟨rfl,g⟩;exact⟨rfl,g.oE hp⟩
theorem swap_t{cp:Value}(h:Mac w0 w mb sb db s)(hp:s.p=u.p):Calls Tryz.prog 71 #[.pointer (some ⟨mb,0,none⟩),cp] w (dJ w0 mb sb db w s (.ok { u with space:=u.held,held:=u.space})):=by
 have c9:=h.b.at_ 9 _ rfl;have c10:=h.b.at_ 10 _ rfl;have f9:=h.b.free 9;have f10:=h.b.free 10;have m0:=h.aj (Kp.drew [] w);have m1:=m0.set (s':={ s with space:=s.held}) 9 (.string s.held) (by omega) rfl rfl;have m2:=m1.set (s':={ s with space:=s.held,held:=s.space}) 10 (.string s.space) (by omega) rfl rfl;have n1:=m0.set (s':={ s with held:=s.space}) 10 (.string s.space) (by omega) rfl rfl;have n2:=n1.set (s':={ s with space:=s.held,held:=s.space}) 9 (.string s.held) (by omega) rfl rfl;have hpp:({ s with space:=s.held,held:=s.space}:Mst).p=({ u with space:=u.held,held:=u.space}:Ust).p:=by
  show({ s.p with space:=s.p.held,held:=s.p.space}:Pst)=_;rw[hp]
  rfl
 have gd:Gr mb db w s.r w.drew s.r:=Gr.dj (Kp.drew [] w) (fun _ e=>by cases e);have G1:Hid (dJ w0 mb sb db w s (.ok { u with space:=u.held,held:=u.space}) (.returned (.tuple #[])) ((w.drew.setCell ⟨mb,9,none⟩ (.string s.held)).setCell ⟨mb,10,none⟩ (.string s.space))):=hid ⟨rfl,_,hpp,m2,gd.trans ((Gr.set _ _ _ _).trans (Gr.set _ _ _ _))⟩;have G2:Hid (dJ w0 mb sb db w s (.ok { u with space:=u.held,held:=u.space}) (.returned (.tuple #[])) ((w.drew.setCell ⟨mb,10,none⟩ (.string s.space)).setCell ⟨mb,9,none⟩ (.string s.held))):=hid ⟨rfl,_,hpp,n2,gd.trans ((Gr.set _ _ _ _).trans (Gr.set _ _ _ _))⟩;clear h m0 m1 m2 n1 n2 gd;go_enter Tryz.func71,Tryz.ntmps71
 go_region_with fail
 all_goals
  go_wp2_with fail;go_end0;first|exact G1.out|exact G2.out
theorem GU{k:Nat}(h:Mac w0 w mb sb db s)(hc:Cu w0 ca co cv)(h5:cv[5]? = some (.int .i64 k))(hp:s.p=u.p):Calls Tryz.prog 59 #[.pointer (some ⟨mb,0,none⟩),.pointer (some ⟨ca,co,none⟩)] w (dJ w0 mb sb db w s (.ok (if u.gU then { u with gU:=false,pc:=k} else u))):=by
 have c15:=h.b.at_ 15 _ rfl;have c13:=h.b.at_ 13 _ rfl;have f15:=h.b.free 15;have f13:=h.b.free 13;have hrp:s.gU=u.gU:=congrArg Pst.gU hp;have hk:=hc.now h h5;have hcm:ca≠mb:=fun e=>by have:=h.r.bk.lo 0 mb rfl;have:=hc.lt;omega
 have m1:=h.set (s':={ s with gU:=false}) 15 (.bool false) (by omega) rfl rfl;have m2:=m1.set (s':={ s with gU:=false,pc:=k}) 13 (.int .i64 k) (by omega) rfl rfl;have hk1:=hc.now m1 h5;rw[hrp] at c15
 cases hr:u.gU
 .rw[hr] at c15;have G:Hid (di w0 mb sb db w s w u.p):=hid ((di.refl h).oE hp);clear h m1 m2;go_enter Tryz.func59,Tryz.ntmps59
  go_wp2_with fail;go_end0;exact⟨rfl,G.out⟩
 .rw[hr] at c15
  have G:Hid (dJ w0 mb sb db w s (.ok { u with gU:=false,pc:=k}) (.returned (.tuple #[])) ((w.setCell ⟨mb,15,none⟩ (.bool false)).setCell ⟨mb,13,none⟩ (.int .i64 k))):=hid ⟨rfl,_,(by
   show({ s.p with gU:=false,pc:=k}:Pst)=_;rw[hp]
   rfl),m2,(Gr.set _ _ _ _).trans (Gr.set _ _ _ _)⟩
  clear h m1 m2;go_enter Tryz.func59,Tryz.ntmps59
  go_wp2_with fail;go_end0;exact G.out
end
theorem qD:∀{l:List UInt8},(eJ l).2=none->(eJ l).1=l/\(10:UInt8)∉l
 | [],_=>⟨rfl,by simp⟩
 | c::l,h=>by
  unfold eJ at h ⊢;by_cases hc:c=10
  .rw[QB hc] at h
   cases h
  .rw[Qw hc] at h ⊢;obtain⟨h1,h2⟩:=qD (l:=l) h;exact⟨by rw[h1],by simp[h2,Ne.symm hc]⟩
theorem jb:∀{l R:List UInt8},(eJ l).2=some R->l=(eJ l).1++10::R/\(10:UInt8)∉(eJ l).1
 | [],_,h=>by cases h
 | c::l,R,h=>by
  unfold eJ at h ⊢;by_cases hc:c=10
  .rw[QB hc] at h ⊢;injection h with h;subst h;exact⟨by rw[hc];rfl,by simp⟩
  .rw[Qw hc] at h ⊢;obtain⟨h1,h2⟩:=jb (l:=l) h;exact⟨congrArg (c::·) h1,by simp[h2,Ne.symm hc]⟩
theorem oT(l:List UInt8):(eJ l).1.length+((eJ l).2.getD []).length<=l.length:=by
 cases h:(eJ l).2 with
 | none=>
  rw[(qD h).1];simp
 | some R=>
  have:=congrArg List.length (jb h).1;simp at this;simp;omega
theorem xD(l:List UInt8):((ba l).toList==[])=l.isEmpty:=by
 rw[ByteArray.toList_eq,eN]
 cases l<;>rfl
theorem cut0_t{s:ByteArray}{i:Nat}(w:World)(h:Lib.indexByte s.data.toList 10=(i:Int))(hi:i<s.size)(hs:s.size<=562949953421312):Calls Tryz.prog 157 #[.string s,.string ⟨#[10]⟩] w fun r w'=>r=.returned (.tuple #[.string (s.extract 0 i),.string (s.extract (i+1) s.size),.bool true])/\∃n,w'=w.drewN n:=by
 have HX:=hid (JT s 10 w);have H:=hid h;clear h;obtain⟨i1,hi1⟩:∃i1:Nat,(i:Int)+1=(i1:Int):=⟨i+1,by omega⟩;have q1:=aa i1 (by omega);have e1:i1=i+1:=by omega
 have g1:i1<=s.size:=by omega
 have g2:i<=s.size:=by omega
 rw[<-e1];clear e1;go_enter Tryz.func157,Tryz.ntmps157
 go_wp2_with fail;refine HX.out.mono ?_;rintro r w1 ⟨rfl,rfl⟩;rw[H.out];go_wp2_with fail;go_quiet (fail);go_wp2_with fail;go_ret3
 exact⟨rfl,_,rfl⟩
theorem cut_t{l:List UInt8}(w:World)(hs:l.length<=562949953421312):Calls Tryz.prog 117 #[.string (ba l),.string ⟨#[10]⟩] w fun r w'=>r=.returned (.tuple #[.string (ba (eJ l).1),.string (ba ((eJ l).2.getD [])),.bool (eJ l).2.isSome])/\Kp [] w w':=by
 cases hc:(eJ l).2 with
 | none=>
  obtain⟨h1,h2⟩:=qD hc;rw[h1];exact cut_no w h2
 | some R=>
  obtain⟨h1,h2⟩:=jb hc;obtain⟨L,hL⟩:∃L,L=(eJ l).1:=⟨_,rfl⟩;rw[<-hL] at h1 h2 ⊢;subst h1;clear hc hL;have hsz:(ba (L++10::R)).size=L.length+R.length+1:=by rw[ay,Qy,QF];omega
  have H:=hid (cut0_t (s:=ba (L++10::R)) (i:=L.length) w (by rw[eN];exact DN L R h2) (by omega) (by rw[ay];exact hs));have e1:(ba (L++10::R)).extract 0 L.length=ba L:=by rw[fu];simp
  have e2:(ba (L++10::R)).extract (L.length+1) (ba (L++10::R)).size=ba R:=by
   rw[fu,hsz,Sz (by rw[Qy,QF];omega),List.drop_append,RP (by omega)];simp
  have E:=hid (And.intro e1 e2);clear e1 e2 hsz hs;go_enter Tryz.func117,Tryz.ntmps117
  go_wp2_with fail;refine H.out.mono ?_;rintro r w1 ⟨rfl,n,rfl⟩;rw[E.out.1,E.out.2];go_wp2_with fail;go_ret3
  exact⟨rfl,Kp.drewN _ _ _⟩
section
variable {w0 w w' w2:World}{mb sb db lo hi:Nat}{s s':Mst}{u:Ust}{σ:Sst}
def Ha(w0:World)(mb sb db:Nat)(w:World)(s:Mst)(u:Ust)(e:Ending)(w':World):Prop:=
 if 1000<(eJ u.left).1.length then e=iG 9 0/\di w0 mb sb db w s w' u.p
 else if u.there then e=.returned (.tuple #[.string (ba (eJ u.left).1),.bool true])/\di w0 mb sb db w s w' ({ u with left:=(eJ u.left).2.getD []}:Ust).p
 else e=.returned (.tuple #[.string ⟨#[]⟩,.bool false])/\di w0 mb sb db w s w' u.p
theorem next_t(h:Mac w0 w mb sb db s)(hp:s.p=u.p)(hu:UOk u):Calls Tryz.prog 126 #[.pointer (some ⟨mb,2,none⟩)] w (Ha w0 mb sb db w s u):=by
 have c2:=h.b.at_ 2 _ rfl;have f2:=h.b.free 2;have c3:=h.b.at_ 3 _ rfl;have c4:=h.b.at_ 4 _ rfl;have e2:s.left=ba u.left:=congrArg Pst.left hp;have e3:s.ahead=u.ahead:=congrArg Pst.ahead hp;have e4:s.ended=u.ended:=congrArg Pst.ended hp;rw[e2] at c2;rw[e3] at c3;rw[e4] at c4;have hlf:=hu.lf;have hcl:=oT u.left;have CT:=hid (cut_t (l:=u.left) w (by omega));have HTH:Hid (u.there=if u.ended then !u.left.isEmpty else if u.ahead then !((eJ u.left).2.getD []).isEmpty else (eJ u.left).2.isSome):=hid rfl;have q0:=xD u.left;obtain⟨L,hL⟩:∃L,L=(eJ u.left).1:=⟨_,rfl⟩;obtain⟨R,hRR⟩:∃R,R=(eJ u.left).2.getD []:=⟨_,rfl⟩;obtain⟨b,hb⟩:∃b,b=(eJ u.left).2.isSome:=⟨_,rfl⟩
 have HN:Hid (∀(e:Ending) (w':World),(if 1000<L.length then e=iG 9 0/\di w0 mb sb db w s w' u.p
   else if u.there then e=.returned (.tuple #[.string (ba L),.bool true])/\di w0 mb sb db w s w' ({ u with left:=R}:Ust).p
   else e=.returned (.tuple #[.string ⟨#[]⟩,.bool false])/\di w0 mb sb db w s w' u.p)->Ha w0 mb sb db w s u e w'):=hid (fun e w' q=>by unfold Ha;rw[<-hL,<-hRR];exact q)
 rw[<-hL,<-hRR,<-hb] at CT;rw[<-hRR,<-hb] at HTH;rw[<-hL,<-hRR] at hcl;have qR:=xD R;have HH:=hid h;have HP:=hid hp;have hblt:=h.b.lt;clear hL hRR hb hp hu h e2 e3 e4;have zL:=ay L;go_enter Tryz.func126,Tryz.ntmps126
 go_wp2_with fail;refine CT.out.mono ?_;rintro r w1 ⟨rfl,k1⟩;have d2:=(k1.cell (p:=⟨mb,2,none⟩) hblt (by simp)).trans c2;have d3:=(k1.cell (p:=⟨mb,3,none⟩) hblt (by simp)).trans c3;have d4:=(k1.cell (p:=⟨mb,4,none⟩) hblt (by simp)).trans c4;have f2:=(k1.frozen (p:=⟨mb,2,none⟩) hblt (by simp)).trans f2;have m1:=HH.out.aj k1;have gr1:Gr mb db w s.r w1 s.r:=Gr.dj k1 (fun _ e=>by cases e);have G1:Hid (di w0 mb sb db w s w1 u.p):=hid ⟨s,HP.out,m1,gr1⟩;have m2:=m1.set (s':={ s with left:=ba R}) 2 (.string (ba R)) (by omega) rfl rfl
 have G2:Hid (di w0 mb sb db w s (w1.setCell ⟨mb,2,none⟩ (.string (ba R))) ({ u with left:=R}:Ust).p):=hid ⟨_,(by
  show({ s.p with left:=ba R}:Pst)=_;rw[HP.out]
  rfl),m2,gr1.trans (Gr.set _ _ _ _)⟩
 have HK:=hid (BV (ba L) (w1.setCell ⟨mb,2,none⟩ (.string (ba R))) (by omega));clear m1 m2 gr1 k1 c2 c3 c4;by_cases h1000:1000<L.length
 .have hsz:1000<(ba L).size:=by omega
  go_wp2_with fail;refine(oS 9 _).mono ?_;rintro r w2 ⟨rfl,rfl⟩;go_wp2_with fail;refine⟨rfl,HN.out _ _ ?_⟩;rw[QB h1000];exact⟨rfl,G1.out⟩
 .have hsz:¬1000<(ba L).size:=by omega
  have FIN1:Hid (u.there=false->Ha w0 mb sb db w s u (.returned (.tuple #[.string ⟨#[]⟩,.bool false])) w1):=hid (fun q=>HN.out _ _ (by rw[Qw h1000,q,Qw (by simp)];exact⟨rfl,G1.out⟩));have FIN2:Hid (u.there=true->∀w3,Kp [] (w1.setCell ⟨mb,2,none⟩ (.string (ba R))) w3->Ha w0 mb sb db w s u (.returned (.tuple #[.string (ba L),.bool true])) w3):=hid (fun q w3 k3=>HN.out _ _ (by rw[Qw h1000,q,QB rfl];exact⟨rfl,G2.out.aj k3⟩));have hth:=HTH.out;clear HTH h1000 G1 G2 HN
  cases he:u.ended
  .rw[he] at d4 hth;rw[Qw (by simp)] at hth
   cases ha:u.ahead
   .rw[ha] at d3 hth;rw[Qw (by simp)] at hth
    cases b
    .go_wp2_with fail;go_ret2
     exact FIN1.out hth
    .go_wp2_with fail;refine HK.out.mono ?_;rintro r w2 ⟨rfl,k2⟩;go_wp2_with fail;go_ret2
     exact FIN2.out hth _ k2
   .rw[ha] at d3 hth;rw[QB rfl] at hth
    cases hR0:R.isEmpty
    .rw[hR0] at qR hth;go_wp2_with fail;refine HK.out.mono ?_;rintro r w2 ⟨rfl,k2⟩;go_wp2_with fail;go_ret2
     exact FIN2.out hth _ k2
    .rw[hR0] at qR hth;go_wp2_with fail;go_ret2
     exact FIN1.out hth
  .rw[he] at d4 hth;rw[QB rfl] at hth
   cases hl0:u.left.isEmpty
   .rw[hl0] at q0 hth;go_wp2_with fail;refine HK.out.mono ?_;rintro r w2 ⟨rfl,k2⟩;go_wp2_with fail;go_ret2
    exact FIN2.out hth _ k2
   .rw[hl0] at q0 hth;go_wp2_with fail;go_ret2
    exact FIN1.out hth
end
