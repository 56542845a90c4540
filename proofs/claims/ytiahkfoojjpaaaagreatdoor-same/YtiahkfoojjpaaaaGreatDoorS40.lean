import Derived.Test.YtiahkfoojjpaaaaGreatDoorS39
set_option maxRecDepth 100000
set_option maxHeartbeats 16000000
set_option linter.all false
namespace Go.Proofs.YtiahkfoojjpaaaaGreatDoor
open Go.RowKit
section
variable {w0 w:World}{b k:Nat}{src:ByteArray}{σ:Sst}{r:RdS}
def Po(r1 r2:RdS)(c:aH)(σ:Sst)(cv:List Value)(σ':Sst)(cv':List Value):Prop:=cv'.take 4=cv.take 4/\gM σ'.fs cv' c/\(jL σ r1->jL σ' r2)/\Ql σ σ'
theorem iI.at_{f e:Nat}{r2:RdS}{c:aH}(h:iI w0 f b src k σ r (.ok (e,r2,c))):Ek w0 f b src k e σ (Po r r2 c):=by
 intro w cb cv hs hb hl hz hf hsl;refine(h w cb cv hs hb hl hz hf hsl).mono ?_;rintro q w1 ⟨rfl,σ',cv',s1,b1,l1,f1,x1,x2,x3,x4⟩;exact⟨σ',cv',rfl,s1,b1,l1,f1,x1,x2,x3,x4⟩
theorem iI.fails{f E pl:Nat}(h:iI w0 f b src k σ r (.error (E,pl))):OpF w0 f b src k σ E pl:=by
 intro w cb cv hs hb hl hz hf hsl;refine(h w cb cv hs hb hl hz hf hsl).mono ?_;rintro q w1 ⟨rfl,hk⟩;exact⟨rfl,hk⟩
theorem Hu{cv cv':List Value}(h:cv'.take 4=cv.take 4){j:Nat}(hj:j<4):cv'[j]? = cv[j]?:=by
 have:=congrArg (fun l=>l[j]?) h;simpa[Rr,hj] using this
def CmdO(w0:World)(b:Nat)(src:ByteArray)(σ:Sst)(q:Nat×RdS)(w':World):Prop:=∃σ',Sr w0 w' b src q.1 σ'/\jL σ' q.2/\σ'.quiet=σ.quiet
theorem D7{w':World}{k5:Nat}{L:List eE}{nt:Bool}{x:Nat}{r1 r2:RdS}{c:aH}(h:Ct w0 w' b src k5 σ (L.map eE.A) nt x (Po r1 r2 c))(hr:jL σ r)(h1:r1=if L.length=2 then { r with ranges:=r.ranges+1} else r)(ca:c.fw=L)(cr:c.range=if L.length=2 then r.ranges else 0)(cn:c.neg=nt)(cw:c.what=x):CmdO w0 b src σ (k5,{ r2 with aD:=r2.aD++[c]}) w':=by
 obtain⟨A,cc,fs,σ',cv',v',hA,hfs,⟨h4,hrest,hrel,hon⟩,s'⟩:=h;rw[Q7] at hA h4 hrel hon;have hS:jL { σ with ranges:=if L.length=2 then σ.ranges+1 else σ.ranges,fs:=fs} r1:=by
  have q:=hr.mono hfs;rw[h1];by_cases h2:L.length=2
  .rw[QB h2,QB h2];exact⟨q.len,q.cs,⟨q.nm.ns,q.nm.nm⟩,by show σ.ranges+1=r.ranges+1;rw[hr.rg],q.bs,q.ls,q.gs⟩
  .rw[Qw h2,Qw h2];exact⟨q.len,q.cs,⟨q.nm.ns,q.nm.nm⟩,q.rg,q.bs,q.ls,q.gs⟩
 have hS':=hrel hS;refine⟨_,s',⟨?_,?_,⟨hS'.nm.ns,hS'.nm.nm⟩,hS'.rg,hS'.bs,hS'.ls,hS'.gs⟩,hon.qt⟩
 .show(σ'.cs++[cv']).length=(r2.aD++[c]).length;rw[Qy,Qy,hS'.len]
  rfl
 .intro i d dc q1 q2;replace q1:(σ'.cs++[cv'])[i]? = some d:=q1;replace q2:(r2.aD++[c])[i]? = some dc:=q2;by_cases hi:i<σ'.cs.length
  .rw[Q5 hi] at q1;rw[Q5 (by rw[<-hS'.len];exact hi)] at q2;exact hS'.cs i d dc q1 q2
  .have hi':i=σ'.cs.length:=by
    have:=(List.getElem?_eq_some_iff.1 q1).1;simp at this;omega
   subst hi';rw[List.getElem?_concat_length] at q1;rw[hS'.len,List.getElem?_concat_length] at q2;injection q1 with q1;injection q2 with q2;subst q1 q2;refine⟨⟨.slice A L.length cc,(Hu h4 (by omega)).trans rfl,by rw[ca];exact hA.mono hon.fx⟩,(Hu h4 (by omega)).trans ?_,(Hu h4 (by omega)).trans (by rw[cn];rfl),(Hu h4 (by omega)).trans (by rw[cw];rfl),hrest⟩;rw[cr];by_cases h2:L.length=2
   .rw[QB h2,QB h2,<-hr.rg]
    rfl
   .rw[Qw h2,Qw h2]
    rfl
theorem Ku(hs:Sr w0 w b src k σ)(hw0:Nm w0)(hr:jL σ r)(hk:tQ r k):Calls Tryz.prog 105 #[.pointer (some ⟨b,0,none⟩)] w (OpO (tI src k r) w0 (CmdO w0 b src σ)):=by
 have hsm:=hs.cur.small;have hle:=hs.cur.le;have hn:σ.cs.length<=2000:=by rw[hr.len];have:=hk.cl;omega
 have hrg:σ.ranges<=2000:=by rw[hr.rg];have:=hk.rl;omega
 have hsl:Small σ 2000:=⟨by rw[hr.nm.ns];have:=hk.nl;omega,by rw[hr.bs];have:=hk.b8;omega,by rw[hr.gs];have:=hk.wl;omega⟩;unfold tI
 cases hA:gH src k with
 | error q=>
  obtain⟨E,pl⟩:=q;exact Kw (P:=fun _=>True) (fun w σ hs=>Cj hs hw0 hA) w σ hs hn hrg hsl trivial
 | ok q=>
  obtain⟨k1,L⟩:=q;have hL:=adrsE_A hsm hle hA;have hLe:=xF hsm hle hA;have hb1:=dm hLe.2.1;dsimp only;generalize hnt:saw src (blk src k1) 33=nt;have hN:(nt=false/\saw src (blk src k1) 33=false/\(if nt=true then blk src (blk src k1+1) else blk src k1)=blk src k1)\/(nt=true/\saw src (blk src k1) 33=true/\(if nt=true then blk src (blk src k1+1) else blk src k1)=blk src (blk src k1+1)):=by
   cases nt
   .exact .inl ⟨rfl,hnt,rfl⟩
   .exact .inr ⟨rfl,hnt,rfl⟩
  have h3s:(if nt=true then blk src (blk src k1+1) else blk src k1)<=src.size:=by
   cases nt
   .exact hb1
   .have:=aC hnt;exact dm (by omega)
  generalize (if nt=true then blk src (blk src k1+1) else blk src k1)=k3 at hN h3s ⊢;by_cases h3:k3<src.size
  .rw[dif_pos h3];generalize hx:(src[k3]'h3).toNat=x
   cases hw:iK.contains x
   .rw[QB rfl];exact lD (P:=fun _=>True) hw0 hL hN (fun σ _ r fs=>Hl h3 hx (pH x _ 0 0 (Je hw))) w σ hs hn hrg hsl trivial
   .rw[Qw (by simp)];generalize hr1:(if L.length=2 then { r with ranges:=r.ranges+1} else r)=r1;have e1:r1.aD=r.aD/\r1.names=r.names/\r1.blocks=r.blocks/\r1.labels=r.labels/\r1.wanted=r.wanted:=by
     rw[<-hr1];split<;>exact⟨rfl,rfl,rfl,rfl,rfl⟩
    generalize hrn:(if L.length=2 then r.ranges else 0)=rn;obtain⟨f,i,ht,hce,hop⟩:=oper_g (r:=r1) (L:=L) (rn:=rn) (nt:=nt) (b:=b) (k:=k3+1) hw0 hw (by omega) (by omega) hsm (by rw[e1.2.2.1];exact hk.b8) (by rw[e1.1];have:=hk.cl;omega) (by rw[e1.1,e1.2.2.1];exact hk.bl);by_cases hbad:(x=125\/x=58)/\(nt=true\/L≠[])
    .rw[QB hbad];refine lD (P:=fun _=>True) hw0 hL hN (fun σ _ r fs=>Hm h3 hx ht hbad.1 (hbad.2.imp_right fun q=>?_)) w σ hs hn hrg hsl trivial;rw[Q7];exact List.length_pos_iff.2 q
    .rw[Qw hbad];have hbare:(x=125\/x=58)->L.map eE.A=[]/\nt=false:=fun q=>by
      have q2:=not_or.1 (fun q3=>hbad ⟨q,q3⟩);have q4:L=[]:=by
       cases L with
       | nil=>rfl
       | cons a l=>exact absurd (List.cons_ne_nil a l) q2.2
      subst q4;exact⟨rfl,by simpa using q2.1⟩
     have hW:∀rr fs,Pm { σ with ranges:=rr,fs:=fs} r1:=fun rr fs=>⟨by rw[e1.1];exact hr.len,⟨by rw[e1.2.1];exact hr.nm.ns,by rw[e1.2.1];exact hr.nm.nm⟩,by rw[e1.2.2.1];exact hr.bs,by rw[e1.2.2.2.1];exact hr.ls,by rw[e1.2.2.2.2];exact hr.gs⟩
     cases ho:aG src (k3+1) r1 (dH L rn nt x) with
     | error q=>
      obtain⟨E,pl⟩:=q;rw[ho] at hop;refine lD (P:=fun σ1=>σ1=σ) hw0 hL hN (fun σ1 hσ1 rr fs=>?_) w σ hs hn hrg hsl rfl;subst hσ1;exact what_op h3 hx ht (fun q=>⟨by rw[(hbare q).1];rfl,(hbare q).2⟩) (hop _ (hW rr fs)).fails hce
     | ok q=>
      obtain⟨e,r2,c⟩:=q;have hok:=jZ hsm (by omega) ho;rw[ho] at hop;dsimp only;have hR:∀(σ:Sst) (cv:List Value) (σ':Sst) (cv':List Value),Po r1 r2 c σ cv σ' cv'->cv'[3]? = cv[3]?/\σ'.cs.length=σ.cs.length:=fun σ cv σ' cv' q=>⟨Hu q.1 (by omega),q.2.2.2.cl⟩
      have hat:∀rr fs,Ek w0 f b src (k3+1) e { σ with ranges:=rr,fs:=fs} (Po r1 r2 c):=fun rr fs=>(hop _ (hW rr fs)).at_;by_cases h123:x=123
      .rw[QB h123];refine(zJ hs hw0 hL hN h3 hx ht hbare hat hce hR (.inl ⟨h123,rfl⟩) hn hrg hsl).mono ?_;rintro q w1 ⟨rfl,h⟩;exact⟨rfl,D7 h hr hr1.symm hok.ca (by rw[hok.cr,<-hrn];rfl) hok.cn hok.cw⟩
      .rw[Qw h123]
       cases hm:iD src (blk src e)
       .rw[Qw (by simp)];refine Kv (P:=fun σ1=>σ1=σ) hw0 hL hN (by unfold saw;rw[dif_pos h3,hx];simp) ht hbare (fun σ1 hσ1 rr fs=>?_) hce hR ⟨h123,hm⟩ w σ hs hn hrg hsl rfl;subst hσ1;exact hat rr fs
       .rw[QB rfl];refine(zJ hs hw0 hL hN h3 hx ht hbare hat hce hR (.inr ⟨h123,hm,rfl⟩) hn hrg hsl).mono ?_;rintro q w1 ⟨rfl,h⟩;exact⟨rfl,D7 h hr hr1.symm hok.ca (by rw[hok.cr,<-hrn];rfl) hok.cn hok.cw⟩
  .rw[dif_neg h3];exact lD (P:=fun _=>True) hw0 hL hN (fun σ _ r fs=>Mb (by omega)) w σ hs hn hrg hsl trivial
end
theorem Ky{s:ByteArray}:∀{n m k:Nat},k<=s.size->s.size<k+n->s.size<k+m->Kz s n k=some (Gx s m k)
 | 0,_,_,h,h1,_=>by omega
 | _,0,_,h,_,h2=>by omega
 | n+1,m+1,k,h,h1,h2=>by
  unfold Kz Gx;by_cases hk:k<s.size
  .cases h10:saw s k 10
   .simp only[hk,decide_true,Bool.not_false,Bool.and_self,if_true,and_self];exact Ky (by omega) (by omega) (by omega)
   .simp[hk]
  .simp[hk]
theorem cmtE_gt{s:ByteArray}{k:Nat}(h:saw s k 35=true):∀{m:Nat},0<m->k<Gx s m k
 | m+1,_=>by
  have hk:=aC h;have h10:saw s k 10=false:=jT h (by omega);unfold Gx;rw[QB ⟨hk,h10⟩];have:=(xo (s:=s) m (k+1)).1;omega
theorem B8{s:ByteArray}:∀{n m k:Nat},k<=s.size->s.size+1<k+n->s.size<k+m->Qg s n k=some (oU s m k)
 | 0,_,_,h,h1,_=>by omega
 | _,0,_,h,_,h2=>by omega
 | n+1,m+1,k,h,h1,h2=>by
  unfold Qg oU
  cases h35:saw s k 35
  .simp only[Sq,if_false]
   cases hb:(saw s k 10||saw s k 59||isB s k)
   .simp only[Sq,if_false]
   .simp only[if_true];have hk:k<s.size:=by
     simp only[Sn] at hb;rcases hb with(hb|hb)|hb
     .exact aC hb
     .exact aC hb
     .simp only[isB,Sn] at hb;rcases hb with hb|hb
      .exact aC hb
      .exact aC hb
    exact B8 (by omega) (by omega) (by omega)
  .simp only[if_true];have hc:=cmtE_gt h35 (m:=s.size+1) (by omega);have hl:=(xo (s:=s) (s.size+1) k).2 h;rw[Ky h (by omega) (show s.size<k+(s.size+1) by omega)];exact B8 hl (by omega) (by omega)
theorem Qf{s:ByteArray}{k:Nat}(h:k<=s.size):Qg s (s.size+2) k=some (oU s (s.size+1) k):=B8 h (by omega) (by omega)
def stepE(s:ByteArray)(m a:Nat)(r:RdS):Except xV RdS:=
 if a<s.size then
  match tI s a r with
  | .error q=>.error q
  | .ok (e,r2)=>eR s m e r2
 else .ok r
theorem tH(s:ByteArray)(m k:Nat)(r:RdS):eR s (m+1) k r=stepE s m (oU s (s.size+1) k) r:=rfl
def endE(s:ByteArray):Except xV RdS->Except xV RdS
 | .error q=>.error q
 | .ok r=>if r.blocks≠[] then .error (6,s.size) else dE r.wanted r
theorem Kk(s:ByteArray)(r:RdS):endE s (.ok r)=if r.blocks≠[] then .error (6,s.size) else dE r.wanted r:=rfl
section
variable {w0 w:World}{b k:Nat}{src:ByteArray}{σ:Sst}{r:RdS}
theorem jL.goal{ci n:Nat}{c:List Value}{d:aH}(h:jL σ r)(hc:σ.cs[ci]? = some c)(hd:r.aD[ci]? = some d):jL { σ with cs:=σ.cs.set ci (c.set 5 (.int .i64 (n:Int)))} { r with aD:=r.aD.set ci { d with goal:=n}}:=by
 have hi:ci<σ.cs.length:=(List.getElem?_eq_some_iff.1 hc).1;refine⟨by simp[h.len],fun j cv c2 h1 h2=>?_,⟨h.nm.ns,h.nm.nm⟩,h.rg,h.bs,h.ls,h.gs⟩;replace h1:(σ.cs.set ci (c.set 5 (.int .i64 (n:Int))))[j]? = some cv:=h1;replace h2:(r.aD.set ci { d with goal:=n})[j]? = some c2:=h2;by_cases hj:ci=j
 .subst hj;rw[QI hi] at h1;rw[QI (by rw[<-h.len];exact hi)] at h2;injection h1 with h1;injection h2 with h2;subst h1 h2;exact(h.cs ci c d hc hd).goal n
 .rw[QL hj] at h1 h2;exact h.cs j cv c2 h1 h2
theorem IH{ci pl:Nat}{c:List Value}{x:ByteArray}(hs:Sr w0 w b src k σ)(hc:σ.cs[ci]? = some c)(hx:c[4]? = some (.string x))(hne:(x.toList==[])=true):Calls Tryz.prog 106 #[.pointer (some ⟨b,0,none⟩),.agg #[.int .i64 (ci:Int),.int .i64 (pl:Int)]] w fun r w'=>r=.returned (.tuple #[])/\Sr w0 w' b src k { σ with cs:=σ.cs.set ci (c.set 5 (.int .i64 (σ.cs.length:Int)))}:=by
 have hilt:ci<σ.cs.length:=(List.getElem?_eq_some_iff.1 hc).1;obtain⟨g,cap,ev⟩:=fY hs.r.o4 (by omega);have ka:=Kp.alloc [] w (.cells #[.int .i64 (ci:Int),.int .i64 (pl:Int)] 164);have BG:=Bl.alloc w [.int .i64 (ci:Int),.int .i64 (pl:Int)] 164;have s1:=hs.aj ka;have HEV:=hid ev;clear hs;go_enter Tryz.func106,Tryz.ntmps106
 go_upto_region 1 with fail
 obtain⟨gb,hgb⟩:∃gb,gb=w.heap.size:=⟨_,rfl⟩;obtain⟨w1,hw1⟩:∃w1,w1=w.alloc (.cells #[.int .i64 (ci:Int),.int .i64 (pl:Int)] 164):=⟨_,rfl⟩;rw[<-hgb,<-hw1] at BG;rw[<-hw1] at s1;rw[<-hgb,<-hw1];clear hgb hw1 ka;have c4:=s1.c.c4;rw[ev] at c4;have d0:=BG.at_ 0 _ rfl;clear ev;go_quiet (fail);have s2:=s1.aj (Kp.drewN [] w1 nq);obtain⟨w2,hw2⟩:∃w2,w2=w1.drewN nq:=⟨_,rfl⟩;rw[<-hw2] at s2 ⊢;clear hw2 s1 BG c4 d0;have d4:=(s2.qH HEV.out hc (j:=4) (by omega)).trans hx;have c4:=s2.c.c4;rw[HEV.out] at c4;obtain⟨u5,d5⟩:∃u,w2.cell? ⟨g,ci*23+5,none⟩=some u:=by
  have hl5:5<c.length:=by rw[(s2.r.len c (QM hc)).1];omega
  exact⟨_,(s2.qH HEV.out hc (j:=5) (by omega)).trans (QA hl5)⟩
 have f5:w2.frozen? ⟨g,ci*23+5,none⟩=false:=by
  have o4:=s2.r.o4;rw[HEV.out] at o4;exact o4.frozenAt _
 have S4:=hid (s2.Ip (i:=ci) (j:=5) (v:=.int .i64 (σ.cs.length:Int)) HEV.out hc (by omega) rfl);go_wp2_with fail;refine bodyPost_ret (results_none rfl _ _ _) rfl ?_;exact⟨rfl,S4.out⟩
theorem uZ:∀(gs:List (Nat×Nat)) (j:Nat) (p:Nat×Nat),gs[j]? = some p->(gs.flatMap fun p:Nat×Nat=>[Value.int .i64 (p.1:Int),.int .i64 (p.2:Int)])[j*2]? = some (.int .i64 (p.1:Int))/\(gs.flatMap fun p:Nat×Nat=>[Value.int .i64 (p.1:Int),.int .i64 (p.2:Int)])[j*2+1]? = some (.int .i64 (p.2:Int))
 | [],_,_,h=>by cases h
 | q::gs,0,p,h=>by
  injection h with h;subst h;exact⟨rfl,rfl⟩
 | q::gs,j+1,p,h=>by
  have:=uZ gs j p h;rw[show(j+1)*2=j*2+1+1 by omega];exact this
theorem Gq{x:ByteArray}(h:x.size=0):(x.toList==[])=true:=by
 have:x=ba []:=Ec (Rb h);rw[this,ByteArray.toList_eq,eN]
 rfl
theorem zi{x:ByteArray}(h:x.size≠0):(x.toList==[])=false:=by
 rw[ByteArray.toList_eq,Qz];intro e;exact h (by show x.data.toList.length=0;rw[e];rfl)
def WholeO(w0:World)(b:Nat)(src:ByteArray)(r:RdS)(w':World):Prop:=∃σ',Sr w0 w' b src src.size σ'/\jL σ' r/\σ'.quiet=qtB src
structure GInv(b:Nat)(src:ByteArray)(gs:List (Nat×Nat))(vg:Value)(n:Nat)(G:Except xV RdS)(j:Nat)(σ:Sst)(r:RdS):Prop where
 rel:jL σ r
 qt:σ.quiet=qtB src
 hgs:σ.gs=gs
 hvg:σ.vg=vg
 hn:r.aD.length=n
 res:G=dE (gs.drop j) r
theorem whole_t(hs:Sr w0 w b src 0 σ)(hw0:Nm w0)(hr:jL σ rd0):Calls Tryz.prog 52 #[.pointer (some ⟨b,0,none⟩)] w (OpO (endE src (eR src (src.size+1) 0 rd0)) w0 (WholeO w0 b src)):=by
 obtain⟨R,hR⟩:∃R,R=eR src (src.size+1) 0 rd0:=⟨_,rfl⟩;rw[<-hR];have HR0:=hid (hR.trans (tH _ _ _ _));clear hR;have HW0:=hid hw0;have HB:=hid (Qf (s:=src) (k:=0) (QG _));have hk1:oU src (src.size+1) 0<=src.size:=(jG _ _).2 (QG _);obtain⟨k1,hk1e⟩:∃k1,k1=oU src (src.size+1) 0:=⟨_,rfl⟩;rw[<-hk1e] at HB HR0 hk1;clear hk1e hw0;have HREL:=hid hr;clear hr;have c0:=hs.cur.c0;have c3:=hs.c.c3;have f3:=hs.cur.free 3;have hsm:=hs.cur.small;go_enter Tryz.func52,Tryz.ntmps52
 go_upto_region 0 with fail
 go_cut [2] from 4 (fun _ wx=>wx=w.setCell ⟨b,3,none⟩ (.bool (qtB src)))
 case first=>
  cases hq:(src.toList==[35,110])
  .go_wp2_with (go_at_call 102;refine(Bu _ _ _).mono ?_;rintro e w1 ⟨rfl,rfl⟩)
   go_meet
   case rel=>simp[qtB,hq]
  .go_wp2_with fail;go_meet
   case rel=>simp[qtB,hq]
 case rest=>
 subst hcut;have s1:=hs.quiet (qtB src);go_wp2_with fail;refine(Ad s1.cur HB.out).mono ?_;rintro q w2 ⟨rfl,h2,m2⟩;have S2:=hid (s1.move m2 h2);have REL2:Hid (jL { σ with quiet:=qtB src} rd0/\tQ rd0 k1/\({ σ with quiet:=qtB src}:Sst).quiet=qtB src):=hid ⟨⟨HREL.out.len,HREL.out.cs,⟨HREL.out.nm.ns,HREL.out.nm.nm⟩,HREL.out.rg,HREL.out.bs,HREL.out.ls,HREL.out.gs⟩,iQ.mono (QG _),rfl⟩;clear s1 m2 h2 hs c0 c3 f3;go_wp2_with fail;go_loopw [24] (fun _ wr=>∃(a m:Nat) (σc:Sst) (r:RdS),a<=src.size/\src.size<=a+m/\Hid (Sr w0 wr b src a σc)/\Hid (jL σc r/\tQ r a/\σc.quiet=qtB src)/\Hid (R=stepE src m a r)) (fun _ wr=>3000-jc wr b)
 case atStart=>exact⟨k1,src.size,_,rd0,hk1,by omega,S2,hid ⟨REL2.out.1,REL2.out.2.1,rfl⟩,HR0⟩
 case round=>
  clear S2 REL2 HR0;obtain⟨a,m,σc,r,hal,ham,SC,HX,HN⟩:=hrel;have HAT:=hid (aE SC.out.cur);have hN:=HN.out;unfold stepE at hN;clear HN;by_cases ha:a<src.size
  .rw[QB ha] at hN;have he:((a:Int)==(src.size:Int))=false:=by simp;omega
   go_wp2_with fail;refine(du SC.out.cur he).mono ?_;rintro q w3 ⟨rfl,h3,m3⟩;have CT:=Ku (SC.out.move m3 h3) HW0.out HX.out.1 HX.out.2.1
   cases hc:tI src a r with
   | error q=>
    obtain⟨E,pl⟩:=q;rw[hc] at CT hN;have HCT:=hid CT;have HN:=hid hN;clear CT hN hc;go_wp2_with fail;refine HCT.out.mono ?_;rintro q w4 ⟨rfl,k4⟩;go_wp2_with fail;refine⟨rfl,?_⟩;rw[HN.out];exact⟨rfl,k4⟩
   | ok q=>
    obtain⟨e,r2⟩:=q;obtain⟨hok2,hae,hes⟩:=qG hsm hal HX.out.2.1 hc;rw[hc] at CT hN;dsimp only at hN
    match m,ham,hN with
    | 0,ham,_=>omega
    | m+1,ham,hN=>
    have HN:=hid (hN.trans (tH _ _ _ _));have HCT:=hid CT;have HB2:=hid (Qf (s:=src) (k:=e) hes);have hb1:=(jG (s:=src) (src.size+1) e).1;have hb2:=(jG (s:=src) (src.size+1) e).2 hes;obtain⟨k2,hk2⟩:∃k2,k2=oU src (src.size+1) e:=⟨_,rfl⟩;rw[<-hk2] at HB2 HN hb1 hb2;have HOK:=hid hok2;clear CT hN hc hk2 hok2;go_wp2_with fail;refine HCT.out.mono ?_;rintro q w4 ⟨rfl,σ',s4,r4,q4⟩;have s4:Sr w0 w4 b src e σ':=s4;have r4:jL σ' r2:=r4;go_wp2_with fail;refine(Ad s4.cur HB2.out).mono ?_;rintro q w5 ⟨rfl,h5,m5⟩;have S5:=hid (s4.move m5 h5);have X5:Hid (jL σ' r2/\tQ r2 k2/\σ'.quiet=qtB src):=hid ⟨r4,HOK.out.mono hb1,q4.trans HX.out.2.2⟩;clear s4 r4 q4 m5;go_wp2_with fail;go_round
    case rel=>exact⟨k2,m,σ',r2,hb2,by omega,S5,X5,HN⟩
    case measure=>rw[aE h5,HAT.out];omega
  .rw[Qw ha] at hN;have hae:a=src.size:=by omega
   subst hae;have he:((src.size:Int)==(src.size:Int))=true:=by simp
   have HN:=hid hN;clear hN ha HAT;go_wp2_with fail;refine(du SC.out.cur he).mono ?_;rintro q w3 ⟨rfl,h3,m3⟩;have S3:=hid (SC.out.move m3 h3);obtain⟨A8,q8,e8,_,_⟩:=aZ S3.out.r.o8;have c8:=S3.out.c.c8;rw[e8,HX.out.1.bs] at c8;clear e8 SC h3 m3 he;by_cases hbs:r.blocks=[]
   case neg=>
    have c1:=S3.out.cur.c1;have hpos:0<r.blocks.length:=List.length_pos_iff.2 hbs;have hb2:=HX.out.2.1.b8;have HBS:=hid hbs;clear hbs;go_wp2_with fail;refine⟨rfl,?_⟩;rw[HN.out,Kk,QB HBS.out];exact⟨rfl,S3.out.r.kp⟩
   case pos=>
   rw[hbs] at c8;have HE:Hid (endE src R=dE r.wanted r):=hid (by rw[HN.out,Kk,Qw (by simp[hbs])]);have hwi:=HX.out.2.1.wi;have hwl:=HX.out.2.1.wl;have HWI:=hid hwi;have INV:Hid (GInv b src r.wanted σc.vg r.aD.length (dE r.wanted r) 0 σc r):=hid ⟨HX.out.1,HX.out.2.2,HX.out.1.gs,rfl,rfl,rfl⟩;obtain⟨A11,q11,e11,_,_⟩:=aZ S3.out.r.o11;have c11:=S3.out.c.c11;rw[e11,HX.out.1.gs] at c11;rw[e11,HX.out.1.gs] at INV;obtain⟨gs,hgs⟩:∃gs,gs=r.wanted:=⟨_,rfl⟩;rw[<-hgs] at INV c11 HE hwl HWI;obtain⟨G,hG⟩:∃G,G=dE gs r:=⟨_,rfl⟩;rw[<-hG] at INV HE;obtain⟨n,hn⟩:∃n,n=r.aD.length:=⟨_,rfl⟩;rw[<-hn] at INV HWI;have hgl:gs.length<=2000:=by omega
   clear hG hn hgs e11 HX hwi hwl HN hbs;go_wp2_with fail;go_loopw [51] (fun v wr=>∃(j:Nat) (σd:Sst) (rd:RdS),j<=gs.length/\v=.int .i64 j/\Hid (Sr w0 wr b src src.size σd)/\Hid (GInv b src gs (.slice A11 gs.length q11) n G j σd rd)) (fun v _=>3000-(intOf v).toNat)
   case atStart=>exact⟨0,σc,r,QG _,rfl,S3,INV⟩
   case round=>
    clear INV S3 c8 c11;obtain⟨j,σd,rd,hj,rfl,SD,INV⟩:=hrel;by_cases hjl:j<gs.length
    case neg=>
     have hjn:j=gs.length:=by omega
     subst hjn;go_wp2_with fail;go_end0;rw[HE.out,INV.out.res,Sy];exact⟨rfl,σd,SD.out,INV.out.rel,INV.out.qt⟩
    case pos=>
    obtain⟨⟨ci,pl⟩,hp⟩:∃p,gs[j]? = some p:=⟨_,QA hjl⟩;have hci:ci<n:=HWI.out (ci,pl) (QM hp);have hgd:gs.drop j=(ci,pl)::gs.drop (j+1):=by
     rw[QW hjl]
     congr 1
     have:=QA hjl;rw[hp] at this;injection this with this;exact this.symm
    have hG:=INV.out.res;rw[hgd] at hG;obtain⟨d,hd⟩:∃d,rd.aD[ci]? = some d:=⟨_,QA (by rw[INV.out.hn];exact hci)⟩;obtain⟨cv,hcv⟩:∃cv,σd.cs[ci]? = some cv:=⟨_,QA (by rw[INV.out.rel.len,INV.out.hn];exact hci)⟩;have h4:=(INV.out.rel.cs ci cv d hcv hd).rest.c4;unfold dE at hG;rw[hd] at hG;dsimp only at hG;obtain⟨g11,cap,e11⟩:=fY SD.out.r.o11 (by rw[INV.out.hgs];omega);have o11:=SD.out.r.o11;rw[e11,INV.out.hgs] at o11;have p0:wr.cell? ⟨g11,j*2,none⟩=some (.int .i64 (ci:Int)):=(o11.cellAt (j*2) (by omega)).trans (uZ gs j _ hp).1;have p1:wr.cell? ⟨g11,j*2+1,none⟩=some (.int .i64 (pl:Int)):=(o11.cellAt (j*2+1) (by omega)).trans (uZ gs j _ hp).2;have hA:A11=some ⟨g11,0,none⟩:=by
     have:=INV.out.hvg;rw[e11] at this;injection this with this;exact this.symm
    subst hA;have ka:=Kp.alloc [] wr (.cells #[.int .i64 (ci:Int),.int .i64 (pl:Int)] 164);have BG:=Bl.alloc wr [.int .i64 (ci:Int),.int .i64 (pl:Int)] 164;have KA:=hid ka;have HC:=hid (And.intro hd (And.intro hcv h4));clear ka o11 e11 hgd hd hcv hp hci h4;by_cases hz:d.label.size=0
    .rw[QB hz] at hG;have HG:=hid hG;have HZ:=hid (IH (pl:=pl) (SD.out.aj KA.out) HC.out.2.1 HC.out.2.2 (Gq hz));clear hG hz;go_wp2_with fail;refine HZ.out.mono ?_;rintro q w4 ⟨rfl,s4⟩;have S4:=hid s4;clear s4;go_wp2_with fail;go_round
     case rel=>
      refine⟨j+1,_,_,by omega,rfl,S4,hid ⟨INV.out.rel.goal HC.out.2.1 HC.out.1,INV.out.qt,INV.out.hgs,INV.out.hvg,by simp[INV.out.hn],?_⟩⟩;rw[HG.out,INV.out.rel.len]
     case measure=>simp[intOf];omega
    .rw[Qw hz] at hG
     cases hf:rd.labels.find? (d.label == ·.1) with
     | none=>
      rw[hf] at hG;have hfn:=jQ d.label σd.ls 0 0 (by rw[INV.out.rel.ls,xE,hf];rfl);have HG:=hid hG;have HZ:=hid (IJ (pl:=pl) (SD.out.aj KA.out) HC.out.2.1 HC.out.2.2 (zi hz) hfn);clear hG hz hf hfn;go_wp2_with fail;refine HZ.out.mono ?_;rintro q w4 ⟨rfl,k4⟩;go_wp2_with fail;refine⟨rfl,?_⟩;rw[HE.out,HG.out];exact⟨rfl,k4⟩
     | some p=>
      obtain⟨y,n'⟩:=p;rw[hf] at hG;dsimp only at hG;obtain⟨i',hfn⟩:=iL d.label σd.ls 0 0 y n' (by rw[INV.out.rel.ls];exact hf);have HG:=hid hG;have HZ:=hid (II (pl:=pl) (SD.out.aj KA.out) HC.out.2.1 HC.out.2.2 (zi hz) hfn);clear hG hz hf hfn;go_wp2_with fail;refine HZ.out.mono ?_;rintro q w4 ⟨rfl,s4⟩;have S4:=hid s4;clear s4;go_wp2_with fail;go_round
      case rel=>
       refine⟨j+1,_,_,by omega,rfl,S4,hid ⟨INV.out.rel.goal HC.out.2.1 HC.out.1,INV.out.qt,INV.out.hgs,INV.out.hvg,by simp[INV.out.hn],?_⟩⟩;exact HG.out
      case measure=>simp[intOf];omega
end
structure Qk(σ:Sst)(S:fN):Prop where
 qt:σ.quiet=S.quiet
 len:σ.cs.length=S.aD.length
 cs:∀(i:Nat) (cv:List Value) (c:aH),σ.cs[i]? = some cv->S.aD[i]? = some c->rq σ.fs cv c
 ns:σ.ns=S.names
 rg:σ.ranges=S.ranges
def Qm(w w':World)(b o:Nat)(S:fN):Prop:=∃σ,Qk σ S/\Scr w.heap.size w'.heap.size w' b o σ/\Kp [] w w'
def ReadO(w:World):Except xV fN->Ending->World->Prop
 | .error (E,k),e,w'=>e=iG E k/\Kp [] w w'
 | .ok S,e,w'=>∃b,e=.returned (.pointer (some ⟨b,3,none⟩))/\Qm w w' b 3 S
def Ei(src:ByteArray)(S:fN):Prop:=∀W:World,Nm W->Calls Tryz.prog 35 #[.string src] W fun e w'=>∃b,e=.returned (.pointer (some ⟨b,3,none⟩))/\Qm W w' b 3 S
def LK(src:ByteArray)(E k:Nat):Prop:=∀W:World,Nm W->Calls Tryz.prog 35 #[.string src] W fun e w'=>e=iG E k/\Kp [] W w'
theorem scrE_is{s:ByteArray}(h:¬2000<s.size):lQ s=(match endE s (eR s (s.size+1) 0 rd0) with
  | .error q=>.error q
  | .ok r=>.ok ⟨qtB s,r.aD,r.names,r.ranges⟩):=by
 unfold lQ;rw[Qw h]
 cases eR s (s.size+1) 0 rd0 with
 | error q=>rfl
 | ok r=>
  dsimp only[endE];by_cases hb:r.blocks≠[]
  .rw[QB hb,QB hb]
  .rw[Qw hb,Qw hb]
   cases dE r.wanted r<;>rfl
theorem PH(src:ByteArray){w:World}(hw:Nm w):Calls Tryz.prog 35 #[.string src] w (ReadO w (lQ src)):=by
 by_cases hsz:2000<src.size
 .have e:lQ src=.error (1,0):=by unfold lQ;rw[QB hsz]
  rw[e];exact Fi hsz w
 .have HSC:=hid (scrE_is hsz);have HW:=hid hw;clear hw;go_enter Tryz.func35,Tryz.ntmps35
  go_wp2_with fail;refine(BV src w (by omega)).mono ?_;rintro q w1 ⟨rfl,k1⟩;go_wp2_with fail;refine(yI w1).mono ?_;rintro q w2 ⟨rfl,ht,k2⟩;have hz2:((w2.alloc (.map #[] 0)).alloc (.map #[] 0)).heap.size=w2.heap.size+1+1:=by simp
  have s5:=Mx (by omega) k1 k2 ht (Bl.alloc ((w2.alloc (.map #[] 0)).alloc (.map #[] 0)) (rdV src w1.heap.size w2.heap.size (w2.heap.size+1)) 127) (Kp.alloc _ _ _);rw[hz2] at s5;have WT:=hid (whole_t s5 HW.out ⟨rfl,fun i cv c h=>(by cases h),⟨rfl,rfl⟩,rfl,rfl,rfl,rfl⟩);clear s5;go_wp2_with (refine gN rfl 124 rfl ?_)
  refine WT.out.mono ?_;intro q w6 hq
  cases hE:endE src (eR src (src.size+1) 0 rd0) with
  | error p=>
   obtain⟨E,pl⟩:=p;rw[hE] at hq HSC;obtain⟨rfl,k6⟩:=hq;have K6:=hid k6;clear k6 hE WT;go_wp2_with fail;refine⟨rfl,?_⟩;rw[HSC.out];exact⟨rfl,K6.out⟩
  | ok r=>
   rw[hE] at hq HSC;obtain⟨rfl,hq⟩:=hq;have HQ:=hid hq;clear hq hE WT;go_wp2_with fail;go_ret;obtain⟨σ',s6,r6,q6⟩:=HQ.out;rw[HSC.out];exact⟨_,rfl,σ',⟨q6,r6.len,r6.cs,r6.nm.ns,r6.rg⟩,s6.scr,s6.r.kp⟩
theorem Fe{src:ByteArray}{S:fN}{w:World}{a:Nat}(hw:Nm w)(ha:w.cell? ⟨a,0,none⟩=some (.string src))(h:Ei src S):Calls Tryz.prog 34 #[.pointer (some ⟨a,0,none⟩)] w fun e w'=>∃b,e=.returned (.pointer (some ⟨b,3,none⟩))/\Qm w w' b 3 S:=by
 have H:=hid (h w hw);clear h;go_enter Tryz.func34,Tryz.ntmps34
 go_wp2_with fail;refine H.out.mono ?_;rintro e w1 ⟨b,rfl,σ,hT,s1,k1⟩;go_wp2_with fail;go_ret;exact⟨b,rfl,σ,hT,s1,k1⟩
theorem IW{s:ByteArray}{k E pl:Nat}(h:iP s k=.error (E,pl)):E≠0:=by
 grind [iP]
section
variable {s:ByteArray}{E pl:Nat}
theorem Ds{k:Nat}(h:oL s k=.error (E,pl)):E≠0:=by
 grind [oL,-> IW]
theorem Pj{k:Nat}(h:nV s k=.error (E,pl)):E≠0:=by
 grind [nV,-> Ds]
theorem Ly{k:Nat}(h:gH s k=.error (E,pl)):E≠0:=by
 grind [gH,-> Pj]
theorem zy{k:Nat}{r:RdS}{c:aH}(h:gQ s k r c=.error (E,pl)):E≠0:=by
 grind [gQ]
theorem Gj:∀{n k:Nat} {r:RdS} {c:aH},aP s n k r c=.error (E,pl)->E≠0:=by
 intro n
 induction n<;>grind [aP,-> zy]
theorem Jj{k:Nat}{r:RdS}{c:aH}(h:aG s k r c=.error (E,pl)):E≠0:=by
 grind [aG,-> Ds,-> Gj,-> zy]
theorem OU{k:Nat}{r:RdS}(h:tI s k r=.error (E,pl)):E≠0:=by
 grind [tI,-> Ly,-> Jj]
theorem KI:∀{n k:Nat} {r:RdS},eR s n k r=.error (E,pl)->E≠0:=by
 intro n
 induction n<;>grind [eR,-> OU]
theorem Gf:∀{l:List (Nat×Nat)} {r:RdS},dE l r=.error (E,pl)->E≠0:=by
 intro l
 induction l<;>grind [dE]
theorem CU(h:lQ s=.error (E,pl)):E≠0:=by
 grind [lQ,-> KI,-> Gf]
end
theorem KV{src:ByteArray}{S:fN}{w:World}{a:Nat}(hw:Nm w)(ha:w.cell? ⟨a,0,none⟩=some (.string src))(h:Ei src S):Calls Tryz.prog 33 #[.func (.func 34) #[] #[.pointer (some ⟨a,0,none⟩)]] w fun e w'=>∃b,e=.returned (.tuple #[.pointer (some ⟨b,3,none⟩),.int .i64 0,.int .i64 0])/\Qm w w' b 3 S:=by
 have hmf:∀(fn:Fn) (first cap:Array Value) (w:World),(Instr.makeFunc fn first cap).run Tryz.prog w=.ok (.func fn first cap) w:=fun _ _ _ _=>rfl;go_enter_defers Tryz.func33,Tryz.ntmps33
 go_wp2_with fail;obtain⟨W,hW⟩:∃W:World,W=((w.alloc (.cells #[.pointer none] 53)).alloc (.cells #[.int .i64 0] 24)).alloc (.cells #[.int .i64 0] 3):=⟨_,rfl⟩;have kW:Kp [] w W:=by rw[hW];exact(Kp.alloc _ _ _).trans ((Kp.alloc _ _ _).trans (Kp.alloc _ _ _))
 have zW:W.heap.size=w.heap.size+3:=by rw[hW];simp
 have a0:W.cell? ⟨w.heap.size,0,none⟩=some (.pointer none):=by rw[hW];simp[go_sem]
 have a1:W.cell? ⟨w.heap.size+1,0,none⟩=some (.int .i64 0):=by rw[hW];simp[go_sem]
 have a2:W.cell? ⟨w.heap.size+1+1,0,none⟩=some (.int .i64 0):=by rw[hW];simp[go_sem]
 have f0:W.frozen? ⟨w.heap.size,0,none⟩=false:=by rw[hW];simp[go_sem]
 have f1:W.frozen? ⟨w.heap.size+1,0,none⟩=false:=by rw[hW];simp[go_sem]
 have f2:W.frozen? ⟨w.heap.size+1+1,0,none⟩=false:=by rw[hW];simp[go_sem]
 rw[<-hW];clear hW;refine(Fe (hw.aj kW (by simp)) ((kW.cell (p:=⟨a,0,none⟩) (World.block_lt_of_cell? _ _ ha) (by simp)).trans ha) h).mono ?_;rintro e w1 ⟨p,rfl,σ,hT,sc,k1⟩;have b0:=(k1.cell (p:=⟨w.heap.size,0,none⟩) (by simp;omega) (by simp)).trans a0;have b1:=(k1.cell (p:=⟨w.heap.size+1,0,none⟩) (by simp;omega) (by simp)).trans a1;have b2:=(k1.cell (p:=⟨w.heap.size+1+1,0,none⟩) (by simp;omega) (by simp)).trans a2;have g0:=(k1.frozen (p:=⟨w.heap.size,0,none⟩) (by simp;omega) (by simp)).trans f0;have g1:=(k1.frozen (p:=⟨w.heap.size+1,0,none⟩) (by simp;omega) (by simp)).trans f1;have g2:=(k1.frozen (p:=⟨w.heap.size+1+1,0,none⟩) (by simp;omega) (by simp)).trans f2;clear a0 a1 a2 f0 f1 f2;go_wp2_with fail;refine leaves_cons (f:=49) (args:=#[.pointer (some ⟨w.heap.size,0,none⟩),.pointer (some ⟨w.heap.size+1,0,none⟩),.pointer (some ⟨w.heap.size+1+1,0,none⟩)]) (by simp) (by simp[go_sem]) ?_;refine(BW _ _ _ _).mono ?_
 rintro e u' w'' ⟨rfl,rfl,rfl⟩
 have K1:Kp [w.heap.size,w.heap.size+1,w.heap.size+1+1] w1 (((w1.setCell ⟨w.heap.size,0,none⟩ (.pointer (some ⟨p,3,none⟩))).setCell ⟨w.heap.size+1,0,none⟩ (.int .i64 0)).setCell ⟨w.heap.size+1+1,0,none⟩ (.int .i64 0)):=
  (Kp.setCell _ _ (by simp)).trans ((Kp.setCell _ _ (by simp)).trans (Kp.setCell _ _ (by simp)))
 have sc2:=sc.aj K1 (by intro x hx;simp at hx;omega);have K2:=Kp.own (x:=w.heap.size) (Kp.own (x:=w.heap.size+1) (Kp.own (x:=w.heap.size+1+1) (S:=[w.heap.size+1,w.heap.size]) (((kW.trans k1).mono (by simp)).trans (K1.mono (by simp))) (by omega)) (by omega)) (by omega);simp[Leaves,settle,results,Tryz.results33,go_sem,b0,b1,b2];exact⟨σ,hT,by simpa[World.setCell] using sc2.lower (by omega),K2⟩
theorem uv{src:ByteArray}{S:fN}{w:World}(hw:Nm w)(h:Ei src S):Calls Tryz.prog 22 #[.string src] w fun e w'=>∃b,e=.returned (.tuple #[.pointer (some ⟨b,3,none⟩),.int .i64 0,.int .i64 0])/\Qm w w' b 3 S:=by
 have hmf:∀(fn:Fn) (first cap:Array Value) (w:World),(Instr.makeFunc fn first cap).run Tryz.prog w=.ok (.func fn first cap) w:=fun _ _ _ _=>rfl;have k0:=Kp.alloc [] w (.cells #[.string src] 9);go_enter Tryz.func22,Tryz.ntmps22
 go_wp2_with fail;refine(KV (a:=w.heap.size) (hw.aj k0 (by simp)) (by simp) h).mono ?_;rintro e w1 ⟨p,rfl,σ,hT,sc,k1⟩;go_wp2_with fail;go_ret3
 exact⟨p,rfl,σ,hT,sc.lower k0.size,k0.trans k1⟩
theorem Gu{src:ByteArray}{S:fN}{w:World}(hw:Nm w)(h:Ei src S):Calls Tryz.prog 9 #[.string src] w fun e w'=>∃b,e=.returned (.tuple #[.pointer (some ⟨b,0,none⟩),.int .i64 0,.int .i64 0])/\Qm w w' b 0 S:=by
 go_enter Tryz.func9,Tryz.ntmps9
 go_wp2_with fail;refine(uv hw h).mono ?_;rintro e w1 ⟨p,rfl,σ,hT,sc,k1⟩;have c0:=sc.c0;have c1:=sc.c1;have c2:=sc.c2;have c3:=sc.c3;go_wp2_with fail;go_ret3
 exact⟨w1.heap.size,rfl,σ,hT,by simpa using sc.copy rfl,k1.trans (Kp.alloc _ _ _)⟩
theorem KX{E k a:Nat}{src:ByteArray}{w:World}(hw:Nm w)(ha:w.cell? ⟨a,0,none⟩=some (.string src))(h:∀W:World,Nm W->W.cell? ⟨a,0,none⟩=some (.string src)->Calls Tryz.prog 34 #[.pointer (some ⟨a,0,none⟩)] W fun e w'=>e=iG E k/\Kp [] W w'):Calls Tryz.prog 33 #[.func (.func 34) #[] #[.pointer (some ⟨a,0,none⟩)]] w fun e w'=>e=.returned (.tuple #[.pointer none,.int .i64 (E:Int),.int .i64 (k:Int)])/\Kp [] w w':=by
 have hmf:∀(fn:Fn) (first cap:Array Value) (w:World),(Instr.makeFunc fn first cap).run Tryz.prog w=.ok (.func fn first cap) w:=fun _ _ _ _=>rfl;go_enter_defers Tryz.func33,Tryz.ntmps33
 go_wp2_with fail;obtain⟨W,hW⟩:∃W:World,W=((w.alloc (.cells #[.pointer none] 53)).alloc (.cells #[.int .i64 0] 24)).alloc (.cells #[.int .i64 0] 3):=⟨_,rfl⟩;have kW:Kp [] w W:=by rw[hW];exact(Kp.alloc _ _ _).trans ((Kp.alloc _ _ _).trans (Kp.alloc _ _ _))
 have zW:W.heap.size=w.heap.size+3:=by rw[hW];simp
 have a0:W.cell? ⟨w.heap.size,0,none⟩=some (.pointer none):=by rw[hW];simp[go_sem]
 have a1:W.cell? ⟨w.heap.size+1,0,none⟩=some (.int .i64 0):=by rw[hW];simp[go_sem]
 have a2:W.cell? ⟨w.heap.size+1+1,0,none⟩=some (.int .i64 0):=by rw[hW];simp[go_sem]
 have f0:W.frozen? ⟨w.heap.size,0,none⟩=false:=by rw[hW];simp[go_sem]
 have f1:W.frozen? ⟨w.heap.size+1,0,none⟩=false:=by rw[hW];simp[go_sem]
 have f2:W.frozen? ⟨w.heap.size+1+1,0,none⟩=false:=by rw[hW];simp[go_sem]
 rw[<-hW];clear hW;refine(h W (hw.aj kW (by simp)) ((kW.cell (p:=⟨a,0,none⟩) (World.block_lt_of_cell? _ _ ha) (by simp)).trans ha)).mono ?_;rintro e w1 ⟨rfl,k1⟩;have b0:=(k1.cell (p:=⟨w.heap.size,0,none⟩) (by simp;omega) (by simp)).trans a0;have b1:=(k1.cell (p:=⟨w.heap.size+1,0,none⟩) (by simp;omega) (by simp)).trans a1;have b2:=(k1.cell (p:=⟨w.heap.size+1+1,0,none⟩) (by simp;omega) (by simp)).trans a2;have g0:=(k1.frozen (p:=⟨w.heap.size,0,none⟩) (by simp;omega) (by simp)).trans f0;have g1:=(k1.frozen (p:=⟨w.heap.size+1,0,none⟩) (by simp;omega) (by simp)).trans f1;have g2:=(k1.frozen (p:=⟨w.heap.size+1+1,0,none⟩) (by simp;omega) (by simp)).trans f2;clear a0 a1 a2 f0 f1 f2;go_wp2_with fail;refine leaves_cons (f:=49) (args:=#[.pointer (some ⟨w.heap.size,0,none⟩),.pointer (some ⟨w.heap.size+1,0,none⟩),.pointer (some ⟨w.heap.size+1+1,0,none⟩)]) (by simp) (by simp[go_sem]) ?_;refine(tJ b0 b1 b2 g0 g1 g2 (by omega) (by omega) (by omega)).mono ?_
 rintro e u' w2 ⟨rfl,rfl,k2,d0,d1,d2⟩;have K2:=Kp.own (x:=w.heap.size) (Kp.own (x:=w.heap.size+1) (Kp.own (x:=w.heap.size+1+1) (S:=[w.heap.size+1,w.heap.size]) (((kW.trans k1).mono (by simp)).trans (k2.mono (by simp))) (by omega)) (by omega)) (by omega);simp[Leaves,settle,results,Tryz.results33,go_sem,d0,d1,d2];exact K2
theorem Ff{E k a:Nat}{src:ByteArray}(h:LK src E k)(W:World)(hW:Nm W)(ha:W.cell? ⟨a,0,none⟩=some (.string src)):Calls Tryz.prog 34 #[.pointer (some ⟨a,0,none⟩)] W fun e w'=>e=iG E k/\Kp [] W w':=by
 have H:=hid (h W hW);clear h;go_enter Tryz.func34,Tryz.ntmps34
 go_wp2_with fail;refine H.out.mono ?_;rintro e w1 ⟨rfl,k1⟩;go_wp2_with fail;exact⟨rfl,rfl,k1⟩
theorem uw{E k:Nat}{src:ByteArray}{w:World}(hw:Nm w)(h:LK src E k):Calls Tryz.prog 22 #[.string src] w fun e w'=>e=.returned (.tuple #[.pointer none,.int .i64 (E:Int),.int .i64 (k:Int)])/\Kp [] w w':=by
 have hmf:∀(fn:Fn) (first cap:Array Value) (w:World),(Instr.makeFunc fn first cap).run Tryz.prog w=.ok (.func fn first cap) w:=fun _ _ _ _=>rfl;have k0:=Kp.alloc [] w (.cells #[.string src] 9);go_enter Tryz.func22,Tryz.ntmps22
 go_wp2_with fail;refine(KX (a:=w.heap.size) (src:=src) (hw.aj k0 (by simp)) (by simp) (Ff h)).mono ?_;rintro e w1 ⟨rfl,k1⟩;go_wp2_with fail;go_ret3
 exact⟨rfl,k0.trans k1⟩
theorem Gv{E k:Nat}{src:ByteArray}{w:World}(hw:Nm w)(hE:E≠0)(h:LK src E k):Calls Tryz.prog 9 #[.string src] w fun e w'=>e=.returned (.tuple #[.pointer none,.int .i64 (E:Int),.int .i64 (k:Int)])/\Kp [] w w':=by
 have hq:((E:Int)==0)=false:=by rw[Qz];omega
 have HE:=hid hE;clear hE;go_enter Tryz.func9,Tryz.ntmps9
 go_wp2_with fail;refine(uw hw h).mono ?_;rintro e w1 ⟨rfl,k1⟩;go_wp2_with fail;go_ret3
 exact⟨rfl,k1⟩
def CompO(w:World):Except xV fN->Ending->World->Prop
 | .error (E,k),e,w'=>e=.returned (.tuple #[.pointer none,.int .i64 (E:Int),.int .i64 (k:Int)])/\Kp [] w w'
 | .ok S,e,w'=>∃b,e=.returned (.tuple #[.pointer (some ⟨b,0,none⟩),.int .i64 0,.int .i64 0])/\Qm w w' b 0 S
theorem qF(src:ByteArray){w:World}(hw:Nm w):Calls Tryz.prog 9 #[.string src] w (CompO w (lQ src)):=by
 cases h:lQ src with
 | error q=>
  obtain⟨E,k⟩:=q;refine(Gv hw (CU h) (fun W hW=>?_)).mono fun e w' q=>q;have:=PH src hW;rw[h] at this;exact this
 | ok S=>
  refine(Gu hw (fun W hW=>?_)).mono fun e w' q=>q;have:=PH src hW;rw[h] at this;exact this
section
variable {s t:ByteArray}{k k0 e:Nat}{l:List UInt8}{r r' r2:RdS}{c c0:aH}
theorem IA{y:ByteArray}{b:Nat}(h:Rsx t b (y.data.toList++l)):t.extract b (b+y.size)=y:=by
 rw[<-Ag (t.extract b (b+y.size)),<-Ag y,fG,h.eq,show b+(ba y.data.toList).size-b=y.data.toList.length by rw[ay];omega,SM]
theorem qd{G:Nat}:∀{n k:Nat} {acc:List UInt8} {hs:List (Nat×Nat)} {e:Nat} {z:List UInt8×List (Nat×Nat)},oe s G n k acc hs=.ok (e,z)->saw s (e-1) 47=true:=by
 intro n
 induction n<;>grind [oe]
theorem Gh:∀{n k:Nat} {acc z:List UInt8} {e:Nat},gG s n k acc=.ok (e,z)->saw s (e-1) 47=true:=by
 intro n
 induction n<;>grind [gG]
theorem Ml{M:Nat}:∀{n k:Nat} {acc z:List UInt8} {e:Nat},toE s M n k acc=.ok (e,z)->saw s (e-1) 47=true:=by
 intro n
 induction n<;>grind [toE]
theorem uo{a e:Nat}(ha:a<e)(he:e<=s.size)(hl:saw s (e-1) 47=true)(h:Rsx t k ((s.extract a (e-1)).data.toList++47::l)):Sg s a t k (e-a)/\Rsx t (k+(e-a)) l/\t.extract k (k+(e-a)-1)=s.extract a (e-1)/\(s.extract a (e-1)).size+1=e-a:=by
 have hz:(s.extract a (e-1)).size=e-1-a:=by rw[Q8];omega
 have hx:=DY (i:=a) (e:=e-1) (by omega) hl;rw[show e-1+1=a+(e-a) by omega] at hx;have h2:Rsx t k ((s.extract a (a+(e-a))).data.toList++l):=by
  rw[hx,QJ];exact h
 refine⟨h2.sg (by omega),?_,?_,by omega⟩
 .have h3:=h.app.next;rw[QK,show k+(s.extract a (e-1)).data.size+1=k+(e-a) by show k+(s.extract a (e-1)).size+1=_;omega] at h3;exact h3
 .have:=IA h;rw[hz,show k+(e-1-a)=k+(e-a)-1 by omega] at this;exact this
theorem Na(h:¬(c.what=58\/c.what=98\/c.what=116))(h2:c.what≠119)(h3:¬(c.what=97\/c.what=105\/c.what=99))(h4:c.what≠113)(h5:c.what≠115)(h6:c.what≠121):c.opr.data.toList=[]:=by
 unfold aH.opr;rw[Qw h,Qw h2,Qw h3,Qw h4,Qw h5,Qw h6]
theorem Qh(hk:k<=s.size):isB s (blk s k)=false:=by
 have key:∀(n k:Nat),s.size-k<=n->isB s (skB s n k)=false:=by
  intro n
  induction n with
  | zero=>
   intro k h;show isB s k=false
   cases hb:isB s k with
   | false=>rfl
   | true=>
    have:=tp hb;omega
  | succ n ih=>
   intro k h;rw[skB];split
   .exact ih (k+1) (by omega)
   .rename_i c;exact Bool.eq_false_iff.2 c
 exact key (s.size-k) k (QD _)
theorem Jd(hk0:k0<=s.size)(h0:c0.what=58)(q:aG s k0 r c0=.ok (e,r2,c))(hs:lN r r')(h:Rsx t k (c.opr.data.toList++10::l)):∃r2',aG t k r' c0=.ok (k+c.opr.data.toList.length,r2',c)/\lN r2 r2':=by
 unfold aG at q ⊢;rw[Qw (by omega),Qw (by omega),QB h0] at q ⊢
 cases hw:dT s k0 with
 | error z=>rw[hw] at q;cases q
 | ok z=>
  obtain⟨e1,x⟩:=z;rw[hw] at q;dsimp only at q;split at q
  .cases q
  .rename_i hlb;injection q with q;injection q with q1 q2;injection q2 with q2 q3;subst q2 q3;obtain⟨w1,_,_,_,_,w6⟩:=dB hk0 hw;have hx:x.size≠0:=by omega
   have ho:({ c0 with label:=x}:aH).opr.data.toList=32::x.data.toList:=by
    unfold aH.opr;rw[QB (.inl h0)];exact lJ hx
   rw[ho] at h ⊢;rw[QS] at h;have h2:=h.next.app;rw[show k+1+x.data.toList.length=k+1+x.size by rw[QK];rfl] at h2;rw[oZ hk0 hw h (Ns h2).1];dsimp only;rw[hs.ls,Qw hlb,hs.cs,QF,QK,show k+1+x.size=k+(x.data.size+1) by show k+1+x.size=k+(x.size+1);omega];exact⟨_,rfl,⟨rfl,hs.ns,hs.rg,hs.bs,rfl,hs.wt⟩⟩
theorem orl_bt(hk0:k0<=s.size)(h0:c0.what=98\/c0.what=116)(hlab:c0.label.size=0)(q:aG s k0 r c0=.ok (e,r2,c))(hs:lN r r')(h:Rsx t k (c.opr.data.toList++10::l)):∃r2',aG t k r' c0=.ok (k+c.opr.data.toList.length,r2',c)/\lN r2 r2':=by
 unfold aG at q ⊢;rw[Qw (by omega),Qw (by omega),Qw (by omega),QB h0] at q ⊢;split at q
 .rename_i hW;have hb0:blk s k0<=s.size:=Nat.le_of_lt (qq hW)
  cases hw:dT s (blk s k0) with
  | error z=>rw[hw] at q;cases q
  | ok z=>
   obtain⟨e1,x⟩:=z;rw[hw] at q;dsimp only at q;injection q with q;injection q with q1 q2;injection q2 with q2 q3;subst q2 q3;obtain⟨w1,_,_,_,_,w6⟩:=dB hb0 hw;have hx:x.size≠0:=by omega
   have ho:({ c0 with label:=x}:aH).opr.data.toList=32::x.data.toList:=by
    unfold aH.opr;rw[QB (.inr h0)];exact lJ hx
   rw[ho] at h ⊢;rw[QS] at h;have h2:=h.next.app;rw[show k+1+x.data.toList.length=k+1+x.size by rw[QK];rfl] at h2;have e2:=oZ hb0 hw h (Ns h2).1
   -- behind the blank
   have eb:blk t k=k+1/\isW t (k+1)=true/\isB t (k+1)=false:=by
    have hq:=e2;unfold dT at hq
    cases hz:wdE t (blk t k) (t.size+1) (blk t k) with
    | error p=>rw[hz] at hq;cases hq
    | ok y=>
     have hwt:isW t (blk t k)=true:=by
      rw[wdE] at hz;split at hz
      .assumption
      .rw[QB rfl] at hz
       cases hz
     have hnb:isB t (k+1)=false:=by
      cases hb:isB t (k+1) with
      | false=>rfl
      | true=>
       exfalso;have hy:0<x.size:=by omega
       cases hxl:x.data.toList with
       | nil=>
        have:x.size=0:=by
         show x.data.size=0;rw[<-QK,hxl]
         rfl
        omega
       | cons u v=>
        have h3:=h.next;rw[hxl,QS] at h3;rw[h3.isB] at hb
        -- the word's first byte is none
        have hwx:isW s (blk s (blk s k0))=true:=by
         unfold dT at hw
         cases hz2:wdE s (blk s (blk s k0)) (s.size+1) (blk s (blk s k0)) with
         | error p=>rw[hz2] at hw;cases hw
         | ok y2=>
          rw[wdE] at hz2;split at hz2
          .assumption
          .rw[QB rfl] at hz2
           cases hz2
        obtain⟨_,_,w3,_,w5,_⟩:=dB hb0 hw;have hu:s[blk s (blk s k0)]? = some u:=by
         have e5:x.data.toList[0]? = (s.extract (blk s (blk s k0)) e1).data.toList[0]?:=congrArg (fun z:ByteArray=>z.data.toList[0]?) w5;rw[hxl,fG,Rr,QB (by omega),Rt,SR,Rv,Ro] at e5;exact e5.symm
        have hlt:=qq hwx;have hg:s[blk s (blk s k0)]'hlt=u:=by
         have e6:s[blk s (blk s k0)]? = some (s[blk s (blk s k0)]'hlt):=QR hlt;rw[hu] at e6;injection e6 with e6;exact e6.symm
        unfold isW at hwx;rw[dif_pos hlt,hg] at hwx;simp only[Sn,RO,decide_eq_true_eq,beq_iff_eq] at hwx hb;omega
     have:=xz h hnb;rw[this] at hwt;exact⟨this,hwt,hnb⟩
   have e3:dT t (k+1)=dT t k:=by
    unfold dT;rw[eb.1,lE eb.2.2]
   rw[eb.1,QB eb.2.1,e3,e2];dsimp only;rw[hs.cs,QF,QK,show k+1+x.size=k+(x.data.size+1) by show k+1+x.size=k+(x.size+1);omega];exact⟨_,rfl,⟨rfl,hs.ns,hs.rg,hs.bs,hs.ls,by simp[hs.wt]⟩⟩
 .injection q with q;injection q with q1 q2;injection q2 with q2 q3;subst q2 q3;have ho:c0.opr.data.toList=[]:=by
   unfold aH.opr;rw[QB (.inr h0)];exact Ci hlab
  rw[ho] at h ⊢;obtain⟨n1,_,n3,_⟩:=Ns h;rw[lE n3,Qw (by rw[n1];simp),hs.cs];exact⟨_,rfl,⟨rfl,hs.ns,hs.rg,hs.bs,hs.ls,by simp[hs.wt]⟩⟩
end
