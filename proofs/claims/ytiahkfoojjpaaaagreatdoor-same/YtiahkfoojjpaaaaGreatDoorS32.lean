import Derived.Test.YtiahkfoojjpaaaaGreatDoorS29
set_option maxRecDepth 100000
set_option maxHeartbeats 16000000
set_option linter.all false
namespace Go.Proofs.YtiahkfoojjpaaaaGreatDoor
open Go.RowKit
theorem pX{W1:World}{lo n size:Nat}{e:TypeId}{xs:List Value}{u:Value}(h:W1.ownsRow lo e size u n xs):∃ad cap,u=.slice ad n cap:=by
 rcases h.2 with⟨h1,h2⟩|⟨g,cap,cur,h1,_⟩
 .exact⟨none,0,by rw[h1,h2]⟩
 .exact⟨_,_,h1⟩
section
variable {w w':World}{b k:Nat}{src:ByteArray}
theorem uq(x:Int)(hr:Cur w b src k){v:Bool}(h:saw src k x=v)(n:Nat):Calls Tryz.prog 137 #[.pointer (some ⟨b,0,none⟩),.int .u8 x] (w.drewN n) fun e w''=>e=.returned (.bool v)/\∃m,w''=w.drewN m:=by
 subst h;exact Calls.quiet_of (PF x (hr.drewN n))
theorem Cur.set{k2:Nat}(h:Cur w b src k)(hk:k2<=src.size):Cur (w.setCell ⟨b,1,none⟩ (.int .i64 k2)) b src k2:=
 ⟨by simpa[World.setCell] using h.lt,hk,h.small,(aq _ (fun e=>by injection e with _ e _;omega)).trans h.c0,aw _ h.c1,fun i=>by simpa using h.free i⟩
theorem jT{x y:Int}(h:saw src k x=true)(hxy:x≠y):saw src k y=false:=by
 unfold saw at h ⊢;split at h
 .rename_i hk;rw[dif_pos hk];simp at h ⊢;rw[h];exact hxy
 .cases h
theorem N8{G:Nat}(hr:Cur w b src k)(h:saw src k 38=true):Calls Tryz.prog 165 #[.pointer (some ⟨b,0,none⟩),.int .i64 G] w fun e w'=>e=.returned (.tuple #[.int .i64 ((0:Nat):Int),.bool true])/\Cur w' b src (k+1)/\Mv b w w':=by
 have H:=hid (df 38 hr h);clear h;go_enter Tryz.func165,Tryz.ntmps165
 go_wp2_with fail;refine H.out.mono ?_;rintro e w1 ⟨rfl,h1,m1⟩;go_wp2_with fail;go_ret2
 exact⟨rfl,h1,m1⟩
theorem hole_no{G:Nat}(hr:Cur w b src k)(h:saw src k 38=false)(h2:saw src k 92=false):Calls Tryz.prog 165 #[.pointer (some ⟨b,0,none⟩),.int .i64 G] w fun e w'=>e=.returned (.tuple #[.int .i64 0,.bool false])/\Cur w' b src k/\Mv b w w':=by
 have H:=hid (df 38 hr h);have H2:=hid h2;clear h h2;go_enter Tryz.func165,Tryz.ntmps165
 go_wp2_with fail;refine H.out.mono ?_;rintro e w1 ⟨rfl,h1,m1⟩;have h1:Cur w1 b src k:=h1;have S:=hid (fun n=>uq 92 h1 H2.out n);go_wp2_with fail;go_quiet ((go_at_call 137;exact S.out _));go_wp2_with fail;go_ret2
 exact⟨rfl,h1.drewN _,m1.trans (Mv.drewN _ _ _)⟩
theorem Gb{G d:Nat}(hr:Cur w b src k)(h:saw src k 92=true)(hk:k+1<src.size)(hd:(src[k+1]).toNat=48+d)(h1d:1<=d)(hdG:d<=G)(hG:G<=9):Calls Tryz.prog 165 #[.pointer (some ⟨b,0,none⟩),.int .i64 G] w fun e w'=>e=.returned (.tuple #[.int .i64 d,.bool true])/\Cur w' b src (k+2)/\Mv b w w':=by
 have h38:saw src k 38=false:=jT h (by decide);have H:=hid (df 38 hr h38);have H2:=hid h;clear h h38;go_enter Tryz.func165,Tryz.ntmps165
 go_wp2_with fail;refine H.out.mono ?_;rintro e w1 ⟨rfl,h1,m1⟩;have h1:Cur w1 b src k:=h1;have S:=hid (fun n=>uq 92 h1 H2.out n);have c0:=h1.c0;have c1:=h1.c1;have hsm:=h1.small;obtain⟨k1,hk1⟩:∃k1:Nat,(k:Int)+1=(k1:Int):=⟨k+1,by omega⟩;have wk1:=aa k1 (by omega);have hne:((k1:Int)==(src.size:Int))=false:=by rw[Qz];omega
 go_wp2_with fail;go_quiet ((go_at_call 137;exact S.out _));have h2:=h1.drewN nq;have m2:=m1.trans (Mv.drewN b w1 nq);generalize w1.drewN nq=w2 at *;clear c0 c1 S h1 m1;have c0:=h2.c0;have c1:=h2.c1;have f1:=h2.free 1;have hkk:k1<src.size:=by omega
 obtain⟨y,hy⟩:∃y:Nat,y=48+d:=⟨_,rfl⟩;have c5:(⟨src.data⟩:ByteArray)[k1].toNat=y:=by
  have e:k1=k+1:=by omega
  subst e;exact hd.trans hy.symm
 have ey:(y:Int)-48=(d:Int):=by omega
 have wd:=aa d (by omega);have wy:=aa y (by omega);have d1:¬((d:Int)<1):=by omega
 have d2:¬((G:Int)<(d:Int)):=by omega
 have HY:=hid hy;have HD:=hid hd;clear hd hy;obtain⟨k2,hk2⟩:∃k2:Nat,(k:Int)+2=(k2:Int):=⟨k+2,by omega⟩;have wk2:=aa k2 (by omega);go_wp2_with fail;go_quiet (fail);go_wp2_with fail;go_ret2
 have h3:=h2.drewN nq;have e2:k2=k+2:=by omega
 refine⟨rfl,?_,(m2.trans (Mv.drewN b w2 nq)).trans (Mv.step b _ _)⟩;rw[<-e2];exact h3.set (by omega)
theorem N7{G:Nat}(hr:Cur w b src k)(h:saw src k 92=true)(hk:k+1=src.size):Calls Tryz.prog 165 #[.pointer (some ⟨b,0,none⟩),.int .i64 G] w fun e w'=>e=.returned (.tuple #[.int .i64 0,.bool false])/\Cur w' b src k/\Mv b w w':=by
 have h38:saw src k 38=false:=jT h (by decide);have H:=hid (df 38 hr h38);have H2:=hid h;clear h h38;go_enter Tryz.func165,Tryz.ntmps165
 go_wp2_with fail;refine H.out.mono ?_;rintro e w1 ⟨rfl,h1,m1⟩;have h1:Cur w1 b src k:=h1;have S:=hid (fun n=>uq 92 h1 H2.out n);have c0:=h1.c0;have c1:=h1.c1;have hsm:=h1.small;obtain⟨k1,hk1⟩:∃k1:Nat,(k:Int)+1=(k1:Int):=⟨k+1,by omega⟩;have wk1:=aa k1 (by omega);have hne:((k1:Int)==(src.size:Int))=true:=by rw[beq_iff_eq];omega
 clear hk;go_wp2_with fail;go_quiet ((go_at_call 137;exact S.out _));go_wp2_with fail;go_ret2
 exact⟨rfl,h1.drewN _,m1.trans (Mv.drewN _ _ _)⟩
theorem N6{G:Nat}(hr:Cur w b src k)(h:saw src k 92=true)(hk:k+1<src.size)(hd:¬(49<=(src[k+1]).toNat/\(src[k+1]).toNat<=48+G))(hG:G<=9):Calls Tryz.prog 165 #[.pointer (some ⟨b,0,none⟩),.int .i64 G] w fun e w'=>e=.returned (.tuple #[.int .i64 0,.bool false])/\Cur w' b src k/\Mv b w w':=by
 have h38:saw src k 38=false:=jT h (by decide);have H:=hid (df 38 hr h38);have H2:=hid h;clear h h38;go_enter Tryz.func165,Tryz.ntmps165
 go_wp2_with fail;refine H.out.mono ?_;rintro e w1 ⟨rfl,h1,m1⟩;have h1:Cur w1 b src k:=h1;have S:=hid (fun n=>uq 92 h1 H2.out n);have c0:=h1.c0;have c1:=h1.c1;have hsm:=h1.small;obtain⟨k1,hk1⟩:∃k1:Nat,(k:Int)+1=(k1:Int):=⟨k+1,by omega⟩;have wk1:=aa k1 (by omega);have hne:((k1:Int)==(src.size:Int))=false:=by rw[Qz];omega
 go_wp2_with fail;go_quiet ((go_at_call 137;exact S.out _));have h2:=h1.drewN nq;have m2:=m1.trans (Mv.drewN b w1 nq);generalize w1.drewN nq=w2 at *;clear c0 c1 S h1 m1;have c0:=h2.c0;have c1:=h2.c1;have hkk:k1<src.size:=by omega
 obtain⟨y,hy⟩:∃y:Nat,y=(src[k+1]).toNat:=⟨_,rfl⟩;have hy256:y<256:=by rw[hy];exact Rc _
 have c5:(⟨src.data⟩:ByteArray)[k1].toNat=y:=by
  have e:k1=k+1:=by omega
  subst e;exact hy.symm
 obtain⟨d,hde⟩:∃d:Int,(y:Int)-48=d:=⟨_,rfl⟩;have wd:IntKind.i64.wrap d=d:=by rw[IntKind.wrap_i64];omega
 have wy:=aa y (by omega);rw[<-hy] at hd;by_cases d1:d<1
 .clear hd hy;go_wp2_with fail;go_quiet (fail);go_wp2_with fail;go_ret2
  exact⟨rfl,h2.drewN _,m2.trans (Mv.drewN _ _ _)⟩
 .have d2:(G:Int)<d:=by omega
  clear hd hy;go_wp2_with fail;go_quiet (fail);go_wp2_with fail;go_ret2
  exact⟨rfl,h2.drewN _,m2.trans (Mv.drewN _ _ _)⟩
def HoleO(b:Nat)(src:ByteArray)(k:Nat)(w:World)(o:Option (Nat×Nat))(e:Ending)(w':World):Prop:=
 match o with
 | some (l,g)=>e=.returned (.tuple #[.int .i64 g,.bool true])/\Cur w' b src l/\Mv b w w'
 | none=>e=.returned (.tuple #[.int .i64 0,.bool false])/\Cur w' b src k/\Mv b w w'
theorem hole_g{G:Nat}(hr:Cur w b src k)(hG:G<=9):Calls Tryz.prog 165 #[.pointer (some ⟨b,0,none⟩),.int .i64 G] w (HoleO b src k w (nI src G k)):=by
 unfold nI
 cases h38:saw src k 38
 .rw[Qw (by simp)]
  cases h92:saw src k 92
  .rw[Qw (by simp)];exact hole_no hr h38 h92
  .rw[QB rfl];have hlt:=aC h92;by_cases hk:k+1<src.size
   .rw[dif_pos hk];by_cases hd:49<=(src[k+1]'hk).toNat/\(src[k+1]'hk).toNat<=48+G
    .rw[QB hd];exact Gb hr h92 hk (by omega) (by omega) (by omega) hG
    .rw[Qw hd];exact N6 hr h92 hk hd hG
   .rw[dif_neg hk];exact N7 hr h92 (by omega)
 .rw[QB rfl];exact N8 hr h38
theorem Oa{s:ByteArray}{G k l g:Nat}(h:nI s G k=some (l,g)):k<l/\l<=s.size/\g<=G:=by
 unfold nI at h;split at h
 .rename_i h38;have:=aC h38;injection h with h;injection h with h1 h2;omega
 .split at h
  .split at h
   .split at h
    .injection h with h;injection h with h1 h2;omega
    .cases h
   .cases h
  .cases h
abbrev oG(H:List (Nat×Nat)):List Value:=H.flatMap fun q:Nat×Nat=>[Value.int .i64 (q.1:Int),.int .i64 (q.2:Int)]
theorem Tryz.NY:(Tryz.prog.info? 211).map (fun i=>(i.zero,i.size,i.bytes))=some (some (.agg #[.int .i64 0,.int .i64 0]),2,16):=by kernel_rfl
theorem Tryz.szNew:(Tryz.prog.info? 87).map (·.size)=some 3:=by kernel_rfl
theorem Ge(H:List (Nat×Nat))(a g:Nat):oG (H++[(a,g)])=oG H++[.int .i64 (a:Int),.int .i64 (g:Int)]:=by simp[oG]
theorem MY{lo lo2 size n:Nat}{e:TypeId}{v:Value}{xs:List Value}(h:w.ownsRow lo e size v n xs)(hl:lo2<=lo):w.ownsRow lo2 e size v n xs:=by
 refine⟨h.1,?_⟩;rcases h.2 with q|⟨g,cap,cur,q1,q2,q3⟩
 .exact .inl q
 .exact .inr ⟨g,cap,cur,q1,QC hl q2,q3⟩
def NewO(b:Nat)(src:ByteArray)(k:Nat)(w:World)(q:Nat×List UInt8×List (Nat×Nat))(r:Ending)(w':World):Prop:=
 ∃v,r=.returned (.agg #[.string (src.extract k (q.1-1)),.string (ba q.2.1),v])/\w'.ownsRow w.heap.size 211 2 v q.2.2.length (oG q.2.2)/\Cur w' b src q.1/\Mv b w w'
theorem Jz{G:Nat}(hre:tU w b src k)(hG:G<=9):Calls Tryz.prog 140 #[.pointer (some ⟨b,0,none⟩),.int .i64 G] w (OutS (flt4 (oe src G (src.size+1) k [] [])) (NewO b src k w) b w):=by
 have hr:=hre.cur;have HC2:=hid hre.c2;clear hre;obtain⟨R,hR⟩:∃R,R=oe src G (src.size+1) k [] []:=⟨_,rfl⟩;rw[<-hR];have HRE:=hid hR;clear hR;have hsm:=hr.small;have hlt:=hr.lt;obtain⟨i0,hi,hz0,hz1,hz2⟩:=info_parts Tryz.infoByte;have HI:=hid (And.intro hi (And.intro hz0 (And.intro hz1 hz2)));clear hi hz0 hz1 hz2;obtain⟨j0,hi,hz0,hz1,hz2⟩:=info_parts Tryz.NY;have HJ:=hid (And.intro hi (And.intro hz0 (And.intro hz1 hz2)));clear hi hz0 hz1 hz2;have k1:=Kp.alloc [] w (.cells #[.string ⟨#[]⟩,.string ⟨#[]⟩,.slice none 0 0] 87);have BP:=Bl.alloc w [.string ⟨#[]⟩,.string ⟨#[]⟩,.slice none 0 0] 87;obtain⟨p,hp⟩:∃p,p=w.heap.size:=⟨_,rfl⟩;obtain⟨wt,hwp⟩:∃wt,wt=w.alloc (.cells #[.string ⟨#[]⟩,.string ⟨#[]⟩,.slice none 0 0] 87):=⟨_,rfl⟩;have hr2:=hr.aj k1 (by simp);have m2:Mv b w wt:=by rw[hwp];exact⟨k1.mono (by simp),fun j _=>k1.cell (p:=⟨b,j,none⟩) hlt (by simp)⟩
 have hpb:p≠b:=by omega
 rw[<-hp,<-hwp] at BP;rw[<-hwp] at k1 hr2;have hpw:p<wt.heap.size:=BP.lt;have c1:=hr.c1;go_enter Tryz.func140,Tryz.ntmps140
 go_upto_region 1 with fail
 rw[<-hp,<-hwp];have HP:=hid hp;clear hp hwp c1;have c1:=hr2.c1;have hbs:=hid (QD wt.heap.size);have B2:=BP;clear k1 hr BP;go_wp2_with fail;go_loopw [6,7] (fun v vh wr=>∃a m acc hs,k<=a/\src.size+1<=a+m/\acc.length+hs.length+k<=a/\Cur wr b src a/\Hid (Mv b w wr)/\Hid (Bl wr p [.string ⟨#[]⟩,.string ⟨#[]⟩,.slice none 0 0])/\Hid (wr.ownsRow wt.heap.size 5 1 v acc.length (Lib.byteCells acc))/\Hid (wr.ownsRow wt.heap.size 211 2 vh hs.length (oG hs))/\Hid (∀g,v.ownBlock=some g->vh.ownBlock≠some g)/\Hid (R=oe src G m a acc hs)/\Hid (wt.heap.size<=wr.heap.size)) (fun _ _ wr=>3000-jc wr b)
 case atStart=>exact⟨k,src.size+1,[],[],QD _,by omega,by simp,hr2,hid m2,hid B2,hid ⟨rfl,.inl ⟨rfl,rfl⟩⟩,hid ⟨rfl,.inl ⟨rfl,rfl⟩⟩,hid (fun g hg=>by cases hg),HRE,hbs⟩
 case round=>
  clear hr2 m2 B2 HRE hbs c1;obtain⟨a,m,acc,hs,hka,ham,hak,hrr,HM,HB,HO,HQ,HX,HN,HS⟩:=hrel;have HAT:=hid (aE hrr);have hle:=hrr.le
  match m,HN,ham with
  | 0,_,ham=>omega
  | m+1,HN,ham=>
  have hN:=HN.out;unfold oe at hN;clear HN;obtain⟨A5,cp5,e5⟩:=pX HO.out;subst e5;obtain⟨A6,cp6,e6⟩:=pX HQ.out;subst e6;have hbl:b<wt.heap.size:=by have:=HP.out;omega
  have gb:Hid (∀g,(Value.slice A5 acc.length cp5).ownBlock=some g->wt.heap.size<=g):=hid (fun g hg=>(aA HO.out hg).1);have gh:Hid (∀g,(Value.slice A6 hs.length cp6).ownBlock=some g->wt.heap.size<=g):=hid (fun g hg=>(aA HQ.out hg).1);by_cases hst:a<src.size/\saw src a 10=false
  case neg=>
   rw[Qw hst] at hN;have HN:=hid hN;have hlv:leaves src a=true:=by
    unfold leaves;by_cases e:a=src.size
    .simp[e]
    .cases h10:saw src a 10
     .exact absurd ⟨by omega,h10⟩ hst
     .simp
   have SF:=hid (CP ⟨hrr,(HM.out.same 2 (by omega)).trans HC2.out⟩ hlv);clear hN hlv hst;go_wp2_with fail;refine SF.out.mono ?_;rintro r w1 ⟨rfl,m1⟩;go_wp2_with fail;refine⟨rfl,?_⟩;rw[HN.out];exact⟨rfl,HM.out.trans m1⟩
  obtain⟨hk,h10⟩:=hst;rw[QB ⟨hk,h10⟩] at hN
  cases h47:saw src a 47
  case true=>
   rw[h47,QB rfl] at hN;have HN:=hid hN;clear hN;have SH:=hid (iO hrr hk h10 h47);clear h10 h47;go_wp2_with fail;refine SH.out.mono ?_;rintro r w1 ⟨rfl,h1,m1⟩;have B1:=hid (HB.out.aj m1.kp (by simpa using hpb));have O1:=ag HO.out (fun g hg=>m1.kp.block g (aA HO.out hg).2 (by have:=gb.out g hg;simp;omega));have O2:=ag O1 (fun g hg=>(Kp.drew [] w1).block g (aA O1 hg).2 (by simp));have Q1:=ag HQ.out (fun g hg=>m1.kp.block g (aA HQ.out hg).2 (by have:=gh.out g hg;simp;omega));have Q2:=hid (ag Q1 (fun g hg=>(Kp.drew [] w1).block g (aA Q1 hg).2 (by simp)));have hcv:=iC O2;have B2:=hid (B1.out.aj (Kp.drew [] w1) (by simp));have M2:=hid ((HM.out.trans m1).trans (Mv.drew b w1));have h2:=h1.drew;have hkl:a<=src.size:=by omega
   have wd:=aa a (by omega);have e1:((a+1:Nat):Int)-1=(a:Int):=by omega
   have hS:(fun w':World=>w'.cell? ⟨b,0,none⟩=some (.string src)/\w'.cell? ⟨b,1,none⟩=some (.int .i64 ((a+1:Nat):Int))/\(convert 49 9 (.slice A5 acc.length cp5)).run Tryz.prog w'=.ok (.string (ba acc)) w') w1.drew:=⟨h2.c0,h2.c1,hcv⟩;obtain⟨a1,ha1⟩:∃a1,a1=a+1:=⟨_,rfl⟩;rw[<-ha1] at hS e1 h2;have HA1:=hid ha1;clear hcv O1 O2 HO h1 SH gb Q1 HX;go_upto_region 9 with fail
   refine az (fun w':World=>w'.cell? ⟨b,0,none⟩=some (.string src)/\w'.cell? ⟨b,1,none⟩=some (.int .i64 (a1:Int))/\(convert 49 9 (.slice A5 acc.length cp5)).run Tryz.prog w'=.ok (.string (ba acc)) w') 18 (by kernel_rfl) ?_;clear ha1;obtain⟨w2,hw2⟩:∃w2,w2=w1.drew:=⟨_,rfl⟩;rw[<-hw2] at hS B2 M2 h2 Q2 ⊢;clear hw2 B1;iterate 18(refine tkn (v:=?_) rfl (by kernel_rfl) (fun _ _ _ h=>h) ⟨rfl,fun w hSw=>?_⟩ hS ?_;rotate_left;(focus((try dsimp only at hSw);go_simp;(try with_reducible rfl)));(try simp only[Qt,Qs,Qr,Act.put,Qq,Qu,Qv]))
   refine ai (i:=18) (by kernel_rfl) rfl (fun K hK=>?_);have p0:=B2.out.at_ 0 _ rfl;have p1:=B2.out.at_ 1 _ rfl;have p2:=B2.out.at_ 2 _ rfl;have q0:=B2.out.free 0;have q1:=B2.out.free 1;have q2:=B2.out.free 2;go_simp;refine hK.out _ _ (.inl rfl) ?_;clear hK K p0 p1 p2 q0 q1 q2 hS;refine ax (by kernel_rfl) ?_ _;have B3:Bl (((w2.setCell ⟨p,0,none⟩ (.string (src.extract k a))).setCell ⟨p,1,none⟩ (.string (ba acc))).setCell ⟨p,2,none⟩ (.slice A6 hs.length cp6)) p [.string (src.extract k a),.string (ba acc),.slice A6 hs.length cp6]:=((B2.out.set 0 _ (by simp)).set 1 _ (by simp)).set 2 _ (by simp);have ks:Kp [p] w2 (((w2.setCell ⟨p,0,none⟩ (.string (src.extract k a))).setCell ⟨p,1,none⟩ (.string (ba acc))).setCell ⟨p,2,none⟩ (.slice A6 hs.length cp6)):=(Kp.setCell _ _ (by simp)).trans ((Kp.setCell _ _ (by simp)).trans (Kp.setCell _ _ (by simp)));obtain⟨w3,hw3⟩:∃w3,w3=((w2.setCell ⟨p,0,none⟩ (.string (src.extract k a))).setCell ⟨p,1,none⟩ (.string (ba acc))).setCell ⟨p,2,none⟩ (.slice A6 hs.length cp6):=⟨_,rfl⟩
   rw[<-hw3] at B3 ks ⊢;clear hw3;have p0:=B3.at_ 0 _ rfl;have p1:=B3.at_ 1 _ rfl;have p2:=B3.at_ 2 _ rfl;go_wp2_with fail;refine bodyPost_ret (eX (p:=4) (ty:=87) (by rw[Tryz.results140]) _ _ p 0 rfl _ _ B3.range Tryz.underlying87 rfl (by rw[Tryz.szNew];rfl)) rfl ?_;rw[HN.out];refine⟨.slice A6 hs.length cp6,rfl,?_,?_,M2.out.past ks hlt (fun q hq=>by simp at hq;have:=HP.out;omega)⟩
   .exact MY (ag Q2.out (fun g hg=>ks.block g (aA Q2.out hg).2 (by rw[QE];have:=gh.out g hg;omega))) (by have:=HP.out;omega)
   .show Cur w3 b src (a+1);rw[<-HA1.out];exact h2.aj ks (by simpa using Ne.symm hpb)
  case false=>
   rw[h47,Qw (by simp)] at hN;have SH:=hid (iO hrr hk h10 h47);clear h10 h47;go_wp2_with fail;refine SH.out.mono ?_;rintro r w1 ⟨rfl,h1,m1⟩;have h1:Cur w1 b src a:=h1;have HH:=hid (hole_g (G:=G) h1 hG)
   cases hh:nI src G a with
   | some q=>
    obtain⟨l,d⟩:=q;have hll:=Oa hh;rw[hh] at HH hN;replace hN:R=oe src G m l acc (hs++[(acc.length,d)]):=hN;have HN:=hid hN;clear hN hh;go_wp2_with fail;refine HH.out.mono ?_;rintro r w3 ⟨rfl,h3,m2⟩;have h3:Cur w3 b src l:=h3;have m12:=m1.trans m2;have HO3:=hid (ag HO.out (fun g hg=>m12.kp.block g (aA HO.out hg).2 (by have:=gb.out g hg;simp;omega)));have HQ3:=hid (ag HQ.out (fun g hg=>m12.kp.block g (aA HQ.out hg).2 (by have:=gh.out g hg;simp;omega)));have HB2:=hid (HB.out.aj m12.kp (by simpa using hpb));have M13:=hid m12;have hbs3:Hid (wt.heap.size<=w3.heap.size):=hid (QC HS.out m12.kp.size);clear m12 m1 m2 h1;go_wp2_with (at_builtin;refine dP rfl _ _ 85 rfl wt.heap.size 211 j0 (.agg #[.int .i64 0,.int .i64 0]) 2 16 Tryz.underlying85 HJ.out.1 HJ.out.2.1 HJ.out.2.2.1 HJ.out.2.2.2 rfl (by decide) (.slice A6 hs.length cp6) hs.length (oG hs) rfl (ag HQ3.out (fun p hp=>(Kp.alloc [] w3 _).block p (aA HQ3.out hp).2 (by simp))) ⟨w3.heap.size,0,none⟩ 1 1 [.int .i64 (acc.length:Int),.int .i64 (d:Int)] rfl rfl (fun j u hu=>by rw[Addr.add_mid,QH];exact(Bl.alloc w3 [.int .i64 (acc.length:Int),.int .i64 (d:Int)] 211).at_ j u hu) (fun u hu=>by simp at hu;rcases hu with rfl|rfl<;>rfl) (by unfold maxLen;omega) (by omega) (QC hbs3.out (Kp.alloc [] w3 _).size) (by omega) ?_;intro g4 cap4 w4 ho4 hg4 hor4)
    have ka:=Kp.alloc [] w3 (.cells #[.int .i64 (acc.length:Int),.int .i64 (d:Int)] 211);have kg:Kp (Value.slice A6 hs.length cp6).ownBlock.toList w3 w4:=(ka.mono (by simp)).trans (aX (S:=(Value.slice A6 hs.length cp6).ownBlock.toList) hg4 (fun q hq=>by rw[hq];simp));have gm:∀q,q∈(Value.slice A6 hs.length cp6).ownBlock.toList->wt.heap.size<=q:=fun q hq=>gh.out q (by simpa using hq);have hbw:wt.heap.size<=w4.heap.size:=QC hbs3.out kg.size;have hww:w.heap.size<=wt.heap.size:=by have:=HP.out;omega
    have h4:=h3.aj kg (fun q=>by have:=gm b q;omega);have P4:Hid (Bl w4 p [.string ⟨#[]⟩,.string ⟨#[]⟩,.slice none 0 0]):=hid (HB2.out.aj kg (fun q=>by have:=gm p q;omega));have M4:Hid (Mv b w w4):=hid ((HM.out.trans M13.out).past kg hlt (fun q hq=>by have:=gm q hq;omega))
    have Q4:Hid (w4.ownsRow wt.heap.size 211 2 (.slice (some ⟨g4,0,none⟩) (hs.length+1) cap4) (hs++[(acc.length,d)]).length (oG (hs++[(acc.length,d)]))):=hid (by
     rw[Ge,Qy]
     exact ho4)
    have O4:Hid (w4.ownsRow wt.heap.size 5 1 (.slice A5 acc.length cp5) acc.length (Lib.byteCells acc)):=hid (ag HO3.out (fun g hg=>kg.block g (aA HO3.out hg).2 (fun q=>HX.out g hg (by simpa using q))))
    have X4:Hid (∀g,(Value.slice A5 acc.length cp5).ownBlock=some g->(Value.slice (some ⟨g4,0,none⟩) (hs.length+1) cap4).ownBlock≠some g):=hid (fun g hg q=>by
     injection q with q;rcases hor4 with r|r
     .exact HX.out g hg (by rw[r];exact congrArg some q)
     .have:=(aA HO3.out hg).2;have r2:=QC ka.size r;have q:g4=g:=q
      omega)
    have HCA:=hid (aE h4);go_round
    case rel=>exact⟨l,m,acc,_,by omega,by omega,by simp;omega,h4,M4,P4,O4,Q4,X4,HN,hid hbw⟩
    case measure=>rw[HCA.out,HAT.out];omega
   | none=>
    rw[hh] at HH hN;go_wp2_with fail;refine HH.out.mono ?_;rintro r w2 ⟨rfl,h2,m2⟩;have m1:=m1.trans m2;clear m2 h1 hh;have PT:=hid (Dt escN ⟨h2,((HM.out.trans m1).same 2 (by omega)).trans HC2.out⟩ hk);unfold escN at PT
    cases hp:gX src escN a with
    | error pl=>
     rw[hp] at hN;unfold escN at hp;rw[hp] at PT;have HN:=hid hN;clear hN hp;go_wp2_with fail;refine PT.out.mono ?_;rintro r w3 ⟨rfl,m3⟩;go_wp2_with fail;refine⟨rfl,?_⟩;rw[HN.out];exact⟨rfl,HM.out.trans (m1.trans m3)⟩
    | ok q=>
    obtain⟨l,x⟩:=q;have hll:=dC hp;rw[hp] at hN;unfold escN at hp;rw[hp] at PT;replace hN:R=oe src G m l (acc++[x]) hs:=hN;have HN:=hid hN;clear hN hp;go_wp2_with fail;refine PT.out.mono ?_;rintro r w3 ⟨rfl,h3,m2⟩;have h3:Cur w3 b src l:=h3;have m12:=m1.trans m2;obtain⟨y,hy⟩:∃y:Nat,y=x.toNat:=⟨_,rfl⟩;rw[show((l,x):Nat×UInt8).2.toNat=y from hy.symm];have HY:=hid hy;have HO3:=hid (ag HO.out (fun g hg=>m12.kp.block g (aA HO.out hg).2 (by have:=gb.out g hg;simp;omega)));have HQ3:=hid (ag HQ.out (fun g hg=>m12.kp.block g (aA HQ.out hg).2 (by have:=gh.out g hg;simp;omega)));have HB2:=hid (HB.out.aj m12.kp (by simpa using hpb));have hsz:acc.length<=2000:=by omega
    have M13:=hid m12;have hbs3:Hid (wt.heap.size<=w3.heap.size):=hid (QC HS.out m12.kp.size);clear hy m12 m1 m2 h2;go_wp2_with (at_builtin;refine dP rfl _ _ 49 rfl wt.heap.size 5 i0 (.int .u8 0) 1 1 Tryz.underlying49 HI.out.1 HI.out.2.1 HI.out.2.2.1 HI.out.2.2.2 rfl (by decide) (.slice A5 acc.length cp5) acc.length (Lib.byteCells acc) rfl (ag HO3.out (fun p hp=>(Kp.alloc [] w3 _).block p (aA HO3.out hp).2 (by simp))) ⟨w3.heap.size,0,none⟩ 1 1 [.int .u8 y] rfl rfl (fun j u hu=>by rw[Addr.add_mid,QH];exact(Bl.alloc w3 [.int .u8 y] 5).at_ j u hu) (fun u hu=>by simp at hu;subst hu;rfl) (by unfold maxLen;omega) (by omega) (QC hbs3.out (Kp.alloc [] w3 _).size) (by omega) ?_;intro g4 cap4 w4 ho4 hg4 hor4)
    have ka:=Kp.alloc [] w3 (.cells #[.int .u8 y] 5);have kg:Kp (Value.slice A5 acc.length cp5).ownBlock.toList w3 w4:=(ka.mono (by simp)).trans (aX (S:=(Value.slice A5 acc.length cp5).ownBlock.toList) hg4 (fun q hq=>by rw[hq];simp));have gm:∀q,q∈(Value.slice A5 acc.length cp5).ownBlock.toList->wt.heap.size<=q:=fun q hq=>gb.out q (by simpa using hq);have hbw:wt.heap.size<=w4.heap.size:=QC hbs3.out kg.size;have hww:w.heap.size<=wt.heap.size:=by have:=HP.out;omega
    have h4:=h3.aj kg (fun q=>by have:=gm b q;omega);have P4:Hid (Bl w4 p [.string ⟨#[]⟩,.string ⟨#[]⟩,.slice none 0 0]):=hid (HB2.out.aj kg (fun q=>by have:=gm p q;omega));have M4:Hid (Mv b w w4):=hid ((HM.out.trans M13.out).past kg hlt (fun q hq=>by have:=gm q hq;omega))
    have O4:Hid (w4.ownsRow wt.heap.size 5 1 (.slice (some ⟨g4,0,none⟩) (acc.length+1) cap4) (acc++[x]).length (Lib.byteCells (acc++[x]))):=hid (by
     have e1:Lib.byteCells (acc++[x])=Lib.byteCells acc++[.int .u8 y]:=by rw[HY.out];simp[Lib.byteCells]
     rw[e1,Qy]
     exact ho4)
    have Q4:Hid (w4.ownsRow wt.heap.size 211 2 (.slice A6 hs.length cp6) hs.length (oG hs)):=hid (ag HQ3.out (fun g hg=>kg.block g (aA HQ3.out hg).2 (fun q=>HX.out g (by simpa using q) hg)))
    have X4:Hid (∀g,(Value.slice (some ⟨g4,0,none⟩) (acc.length+1) cap4).ownBlock=some g->(Value.slice A6 hs.length cp6).ownBlock≠some g):=hid (fun g q hg=>by
     injection q with q;rcases hor4 with r|r
     .exact HX.out g (by rw[r];exact congrArg some q) hg
     .have:=(aA HQ3.out hg).2;have r2:=QC ka.size r;have q:g4=g:=q
      omega)
    have HCA:=hid (aE h4);go_round
    case rel=>exact⟨l,m,acc++[x],hs,by omega,by omega,by simp;omega,h4,M4,P4,O4,Q4,X4,HN,hid hbw⟩
    case measure=>rw[HCA.out,HAT.out];omega
end
abbrev PatQ(n:Nat)(bg:Int)(groups deepest:Nat)(xs:List Value):Nat->World->Prop:=fun pb w=>PtR 0 w pb n bg groups deepest xs
theorem PtR.bears{B:Nat}{w:World}{p n groups deepest:Nat}{begin:Int}{xs:List Value}(h:PtR B w p n begin groups deepest xs):∃g o1 o2,w.heap[p]? = some o1/\w.heap[g]? = some o2/\B<=p/\B<=g/\Hc (PatQ n begin groups deepest xs) p g o1 o2:=by
 obtain⟨g,c,h1,h2⟩:=h.code;have hg:=aA h2 (g:=g) rfl;obtain⟨o1,e1⟩:∃o,w.heap[p]? = some o:=⟨_,QR h.lt⟩;obtain⟨o2,e2⟩:∃o,w.heap[g]? = some o:=⟨_,QR hg.2⟩;refine⟨g,o1,o2,e1,e2,h.lo,hg.1,fun w2 q1 q2=>?_⟩;have k1:w2.heap[p]? = w.heap[p]?:=q1.trans e1.symm;have k2:w2.heap[g]? = w.heap[g]?:=q2.trans e2.symm;refine⟨QG _,aN q1,⟨g,c,(World.cell?_of_block k1).trans h1,aU (ag h2 (fun k hk=>?_)) (QG _)⟩,(World.cell?_of_block k1).trans h.c1,(World.cell?_of_block k1).trans h.c2,(World.cell?_of_block k1).trans h.c3⟩;have:g=k:=by simpa[Value.ownBlock] using hk
 subst this;exact k2
theorem Tryz.Hx:(Tryz.prog.info? 84).map (·.size)=some 2:=by kernel_rfl
def Ptn.Q(q:Ptn):Nat->World->Prop:=PatQ (1+q.x.pi.len) ((q.x.pi.em 1 0 0).2:Nat) q.G q.x.pi.dd (de (codeOf q.x.pi))
def PatO(b:Nat)(src:ByteArray)(w:World)(q:Nat×Ptn)(r:Ending)(w':World):Prop:=
 ∃pb g o1 o2,r=.returned (.agg #[.pointer (some ⟨pb,0,none⟩),.string q.2.txt])/\w'.heap[pb]? = some o1/\w'.heap[g]? = some o2/\w.heap.size<=pb/\w.heap.size<=g/\Hc q.2.Q pb g o1 o2/\Cur w' b src q.1/\Mv b w w'
section
variable {w w':World}{b k:Nat}{src:ByteArray}
theorem I9(hr:tU w b src k)(hw:Nm w)(hbg:b≠4)(h47:saw src k 47=true){R:Except xV (Nat×Ptn)}(hR:R=(match ptE src (src.size+1) (k+1) with
   | .error pl=>.error (4,pl)
   | .ok e=>match iP (src.extract 0 (e-1)) (k+1) with
    | .error q=>.error q
    | .ok (G,x)=>.ok (e,⟨src.extract (k+1) (e-1),G,x⟩))):Calls Tryz.prog 139 #[.pointer (some ⟨b,0,none⟩)] w (OutS R (PatO b src w) b w):=by
 have HRE:=hid hR;have HBG:Hid (4∉[b]):=hid (by simpa using Ne.symm hbg);have HW:=hid hw;have HC2:=hid hr.c2;clear hR hw;replace hr:=hr.cur;have hsm:=hr.small;have hlt:=hr.lt;have k1:=Kp.alloc [] w (.cells #[.pointer none,.string ⟨#[]⟩] 84);have BP:=Bl.alloc w [.pointer none,.string ⟨#[]⟩] 84;obtain⟨p,hp⟩:∃p,p=w.heap.size:=⟨_,rfl⟩;obtain⟨wt,hwp⟩:∃wt,wt=w.alloc (.cells #[.pointer none,.string ⟨#[]⟩] 84):=⟨_,rfl⟩;have hr1:=hr.aj k1 (by simp);have m1:Mv b w wt:=by rw[hwp];exact⟨k1.mono (by simp),fun j _=>k1.cell (p:=⟨b,j,none⟩) hlt (by simp)⟩
 have hpb:p≠b:=by omega
 rw[<-hp,<-hwp] at BP;rw[<-hwp] at k1 hr1;have hpw:p<wt.heap.size:=BP.lt;go_enter Tryz.func139,Tryz.ntmps139
 go_upto_region 1 with fail
 rw[<-hp,<-hwp];have HP:=hid hp;clear hp hwp;go_wp2_with fail;refine(xj 47 hr1 h47).mono ?_;rintro r w2 ⟨rfl,hr2,m2⟩;have B2:=BP.aj m2.kp (by simpa using hpb);have m02:=m1.trans m2;have c1:=hr2.c1;clear k1 hr BP hr1 h47 m1 m2;obtain⟨f,hf⟩:∃f,f=k+1:=⟨_,rfl⟩;rw[<-hf] at c1 hr2 HRE;obtain⟨P0,hP0⟩:∃P0,P0=ptE src (src.size+1) f:=⟨_,rfl⟩;rw[<-hP0] at HRE;have HP0:=hid hP0;clear hP0;have HF:=hid hf;clear hf;go_wp2_with fail;go_loopw [14] (fun _ wr=>∃a m,f<=a/\src.size+1<=a+m/\Cur wr b src a/\Hid (Mv b w wr)/\Hid (Bl wr p [.pointer none,.string ⟨#[]⟩])/\Hid (P0=ptE src m a)) (fun _ wr=>3000-jc wr b)
 case atStart=>exact⟨f,src.size+1,QD _,by omega,hr2,hid m02,hid B2,HP0⟩
 case round=>
  clear hr2 m02 B2 c1 HP0;obtain⟨a,m,hfa,ham,hrr,HM,HB,HN⟩:=hrel;have HAT:=hid (aE hrr);have hle:=hrr.le
  match m,HN,ham with
  | 0,_,ham=>omega
  | m+1,HN,ham=>
  have hN:=HN.out;unfold ptE at hN;clear HN;by_cases hst:a<src.size/\saw src a 10=false
  case neg=>
   rw[Qw hst] at hN;have HN:=hid hN;have hlv:leaves src a=true:=by
    unfold leaves;by_cases e:a=src.size
    .simp[e]
    .cases h10:saw src a 10
     .exact absurd ⟨by omega,h10⟩ hst
     .simp
   have SF:=hid (CP ⟨hrr,(HM.out.same 2 (by omega)).trans HC2.out⟩ hlv);clear hN hlv hst;go_wp2_with fail;refine SF.out.mono ?_;rintro r w1 ⟨rfl,m1⟩;go_wp2_with fail;refine⟨rfl,?_⟩;rw[HRE.out,HN.out];exact⟨rfl,HM.out.trans m1⟩
  obtain⟨hk,h10⟩:=hst;rw[QB ⟨hk,h10⟩] at hN
  cases h47:saw src a 47
  case true=>
   rw[h47,QB rfl] at hN;have HNE:=hid hN;clear hN;have SH:=hid (iO hrr hk h10 h47);clear h10 h47;go_wp2_with fail;refine SH.out.mono ?_;rintro r w1 ⟨rfl,h1,m1⟩;have h1:Cur w1 b src (a+1):=h1;have c1:=h1.c1;have hkl:a<=src.size:=by omega
   have wd:=aa a (by omega);have e1:((a+1:Nat):Int)-1=(a:Int):=by omega
   obtain⟨a1,ha1⟩:∃a1,a1=a+1:=⟨_,rfl⟩;rw[<-ha1] at c1 h1 e1;have B1:=hid (HB.out.aj m1.kp (by simpa using hpb));have M1:=hid (HM.out.trans m1);have HA1:=hid ha1;clear ha1 m1 hrr HM HB;go_upto_region 8 with fail
   have hsz:(src.extract 0 a).size=a:=by rw[Q8];omega
   have hre:=HRE.out;rw[HNE.out] at hre
   replace hre:R=(match iP (src.extract 0 a) f with
    | .error q=>.error q
    | .ok (G,x)=>.ok (a+1,⟨src.extract f a,G,x⟩)):=hre
   have RG:=AW (src:=src.extract 0 a) (fr:=f) (by omega) (by omega);have hnm:Nm w1.drew:=(HW.out.aj M1.out.kp HBG.out).aj (Kp.drew [] w1) (by simp);have h2:=h1.drew;have hS:(fun w':World=>w'.cell? ⟨b,0,none⟩=some (.string src)) w1.drew:=h2.c0;have B2:=hid (B1.out.aj (Kp.drew [] w1) (by simp));have M2:=hid (M1.out.trans (Mv.drew b w1));clear c1
   cases hrd:iP (src.extract 0 a) f with
   | error q=>
    obtain⟨E,pl⟩:=q;rw[hrd] at RG hre;have HRE2:=hid hre;have RD:=hid (RG.1 w1.drew hnm);clear RG hre hrd hnm hsz HNE;refine az (fun w':World=>w'.cell? ⟨b,0,none⟩=some (.string src)) 18 (by kernel_rfl) ?_;obtain⟨w2,hw2⟩:∃w2,w2=w1.drew:=⟨_,rfl⟩;rw[<-hw2] at hS B2 M2 h2 RD ⊢;clear hw2 B1 M1;iterate 8(refine tkn (v:=?_) rfl (by kernel_rfl) (fun _ _ _ h=>h) ⟨rfl,fun w hSw=>?_⟩ hS ?_;rotate_left;(focus((try dsimp only at hSw);go_simp;(try with_reducible rfl)));(try simp only[Qt,Qs,Qr,Act.put,Qq,Qu,Qv]))
    refine tk1 9 (v:=?_) rfl (by kernel_rfl) (fun _ _ _ h=>h) ⟨rfl,fun w hSw=>?_⟩ hS ?_;rotate_left;· ((try dsimp only at hSw);go_simp;(try with_reducible rfl))
    (try simp only[Qt,Qs,Qr,Act.put,Qq,Qu,Qv])
    refine tk1 10 (v:=?_) rfl (by kernel_rfl) (fun _ _ _ h=>h) ⟨rfl,fun w hSw=>?_⟩ hS ?_;rotate_left;· ((try dsimp only at hSw);go_simp;(try with_reducible rfl))
    (try simp only[Qt,Qs,Qr,Act.put,Qq,Qu,Qv])
    refine tk1 11 (v:=?_) rfl (by kernel_rfl) (fun _ _ _ h=>h) ⟨rfl,fun w hSw=>?_⟩ hS ?_;rotate_left;· ((try dsimp only at hSw);go_simp;(try with_reducible rfl))
    (try simp only[Qt,Qs,Qr,Act.put,Qq,Qu,Qv])
    refine tk1 12 (v:=?_) rfl (by kernel_rfl) (fun _ _ _ h=>h) ⟨rfl,fun w hSw=>?_⟩ hS ?_;rotate_left;· ((try dsimp only at hSw);go_simp;(try with_reducible rfl))
    (try simp only[Qt,Qs,Qr,Act.put,Qq,Qu,Qv])
    refine tk1 13 (v:=?_) rfl (by kernel_rfl) (fun _ _ _ h=>h) ⟨rfl,fun w hSw=>?_⟩ hS ?_;rotate_left;· ((try dsimp only at hSw);go_simp;(try with_reducible rfl))
    (try simp only[Qt,Qs,Qr,Act.put,Qq,Qu,Qv])
    refine tk1 14 (v:=?_) rfl (by kernel_rfl) (fun _ _ _ h=>h) ⟨rfl,fun w hSw=>?_⟩ hS ?_;rotate_left;· ((try dsimp only at hSw);go_simp;(try with_reducible rfl))
    (try simp only[Qt,Qs,Qr,Act.put,Qq,Qu,Qv])
    refine tk1 15 (v:=?_) rfl (by kernel_rfl) (fun _ _ _ h=>h) ⟨rfl,fun w hSw=>?_⟩ hS ?_;rotate_left;· ((try dsimp only at hSw);go_simp;(try with_reducible rfl))
    (try simp only[Qt,Qs,Qr,Act.put,Qq,Qu,Qv])
    refine tk1 16 (v:=?_) rfl (by kernel_rfl) (fun _ _ _ h=>h) ⟨rfl,fun w hSw=>?_⟩ hS ?_;rotate_left;· ((try dsimp only at hSw);go_simp;(try with_reducible rfl))
    (try simp only[Qt,Qs,Qr,Act.put,Qq,Qu,Qv])
    refine ai (i:=8) (by kernel_rfl) rfl (fun K hK=>?_);go_simp;refine RD.out.mono ?_;rintro r w3 ⟨rfl,k3⟩;go_simp;exact⟨rfl,(by rw[HRE2.out];exact⟨rfl,M2.out.past k3 hlt (by simp)⟩)⟩
   | ok q=>
    obtain⟨G,x⟩:=q;rw[hrd] at RG hre;have HRE2:=hid hre;obtain⟨hpg,hl100,hreads⟩:=RG;have RD:=hid (Dg (w:=w1.drew) hnm (by omega) (by omega) (by omega) (by omega) hreads);clear hre hrd hnm hsz HNE hpg hreads;refine az (fun w':World=>w'.cell? ⟨b,0,none⟩=some (.string src)) 18 (by kernel_rfl) ?_;obtain⟨w2,hw2⟩:∃w2,w2=w1.drew:=⟨_,rfl⟩;rw[<-hw2] at hS B2 M2 h2 RD ⊢;clear hw2 B1 M1;iterate 8(refine tkn (v:=?_) rfl (by kernel_rfl) (fun _ _ _ h=>h) ⟨rfl,fun w hSw=>?_⟩ hS ?_;rotate_left;(focus((try dsimp only at hSw);go_simp;(try with_reducible rfl)));(try simp only[Qt,Qs,Qr,Act.put,Qq,Qu,Qv]))
    refine tk1 9 (v:=?_) rfl (by kernel_rfl) (fun _ _ _ h=>h) ⟨rfl,fun w hSw=>?_⟩ hS ?_;rotate_left;· ((try dsimp only at hSw);go_simp;(try with_reducible rfl))
    (try simp only[Qt,Qs,Qr,Act.put,Qq,Qu,Qv])
    refine tk1 10 (v:=?_) rfl (by kernel_rfl) (fun _ _ _ h=>h) ⟨rfl,fun w hSw=>?_⟩ hS ?_;rotate_left;· ((try dsimp only at hSw);go_simp;(try with_reducible rfl))
    (try simp only[Qt,Qs,Qr,Act.put,Qq,Qu,Qv])
    refine tk1 11 (v:=?_) rfl (by kernel_rfl) (fun _ _ _ h=>h) ⟨rfl,fun w hSw=>?_⟩ hS ?_;rotate_left;· ((try dsimp only at hSw);go_simp;(try with_reducible rfl))
    (try simp only[Qt,Qs,Qr,Act.put,Qq,Qu,Qv])
    refine tk1 12 (v:=?_) rfl (by kernel_rfl) (fun _ _ _ h=>h) ⟨rfl,fun w hSw=>?_⟩ hS ?_;rotate_left;· ((try dsimp only at hSw);go_simp;(try with_reducible rfl))
    (try simp only[Qt,Qs,Qr,Act.put,Qq,Qu,Qv])
    refine tk1 13 (v:=?_) rfl (by kernel_rfl) (fun _ _ _ h=>h) ⟨rfl,fun w hSw=>?_⟩ hS ?_;rotate_left;· ((try dsimp only at hSw);go_simp;(try with_reducible rfl))
    (try simp only[Qt,Qs,Qr,Act.put,Qq,Qu,Qv])
    refine tk1 14 (v:=?_) rfl (by kernel_rfl) (fun _ _ _ h=>h) ⟨rfl,fun w hSw=>?_⟩ hS ?_;rotate_left;· ((try dsimp only at hSw);go_simp;(try with_reducible rfl))
    (try simp only[Qt,Qs,Qr,Act.put,Qq,Qu,Qv])
    refine tk1 15 (v:=?_) rfl (by kernel_rfl) (fun _ _ _ h=>h) ⟨rfl,fun w hSw=>?_⟩ hS ?_;rotate_left;· ((try dsimp only at hSw);go_simp;(try with_reducible rfl))
    (try simp only[Qt,Qs,Qr,Act.put,Qq,Qu,Qv])
    refine tk1 16 (v:=?_) rfl (by kernel_rfl) (fun _ _ _ h=>h) ⟨rfl,fun w hSw=>?_⟩ hS ?_;rotate_left;· ((try dsimp only at hSw);go_simp;(try with_reducible rfl))
    (try simp only[Qt,Qs,Qr,Act.put,Qq,Qu,Qv])
    refine ai (i:=8) (by kernel_rfl) rfl (fun K hK=>?_);go_simp;refine RD.out.mono ?_;rintro r w3 ⟨pb,rfl,pt,k3⟩;have hS3:(fun w':World=>w'.cell? ⟨b,0,none⟩=some (.string src)) w3:=(h2.aj k3 (by simp)).c0;have h3:=h2.aj k3 (by simp);have B3:=hid (B2.out.aj k3 (by simp));have M3:Hid (Mv b w w3):=hid (M2.out.past k3 hlt (by simp));have HPT:=hid pt;have HZ:Hid (w.heap.size<=w2.heap.size):=hid M2.out.kp.size;have HBL:=hid B2.out.lt;clear pt k3 h2 B2 M2;dsimp only;refine hK.out _ _ (.inr hS3) ?_;clear hK K;refine ai (i:=17) (by kernel_rfl) rfl (fun K hK=>?_);go_simp;refine hK.out _ _ (.inr hS3) ?_;clear hK K;refine ai (i:=18) (by kernel_rfl) rfl (fun K hK=>?_);have p0:=B3.out.at_ 0 _ rfl;have p1:=B3.out.at_ 1 _ rfl;have q0:=B3.out.free 0;have q1:=B3.out.free 1;go_simp;refine hK.out _ _ (.inl rfl) ?_;clear hK K p0 p1 q0 q1 hS hS3;refine ax (by kernel_rfl) ?_ _;have B4:Bl ((w3.setCell ⟨p,0,none⟩ (.pointer (some ⟨pb,0,none⟩))).setCell ⟨p,1,none⟩ (.string (src.extract f a))) p [.pointer (some ⟨pb,0,none⟩),.string (src.extract f a)]:=(B3.out.set 0 _ (by simp)).set 1 _ (by simp)
    have ks:Kp [p] w3 ((w3.setCell ⟨p,0,none⟩ (.pointer (some ⟨pb,0,none⟩))).setCell ⟨p,1,none⟩ (.string (src.extract f a))):=(Kp.setCell _ _ (by simp)).trans (Kp.setCell _ _ (by simp));obtain⟨w4,hw4⟩:∃w4,w4=(w3.setCell ⟨p,0,none⟩ (.pointer (some ⟨pb,0,none⟩))).setCell ⟨p,1,none⟩ (.string (src.extract f a)):=⟨_,rfl⟩;rw[<-hw4] at B4 ks ⊢;clear hw4;go_wp2_with fail;obtain⟨g,o1,o2,q1,q2,q3,q4,q5⟩:=HPT.out.bears;have hpp:p<w2.heap.size:=HBL.out;rw[HRE2.out];refine bodyPost_ret (eX (p:=2) (ty:=84) (by rw[Tryz.results139]) _ _ p 0 rfl _ _ B4.range Tryz.underlying84 rfl (by rw[Tryz.Hx];rfl)) rfl ⟨pb,g,o1,o2,rfl,(ks.block pb (aN q1) (by simp;omega)).trans q1,(ks.block g (aN q2) (by simp;omega)).trans q2,by have:=HZ.out;omega,by have:=HZ.out;omega,q5,?_,M3.out.past ks hlt (fun q hq=>by simp at hq;have:=HP.out;omega)⟩;rw[<-HA1.out];exact h3.aj ks (by simpa using Ne.symm hpb)
  case false=>
   rw[h47,Qw (by simp)] at hN
   cases h92:saw src a 92
   case false=>
    rw[h92,Qw (by simp)] at hN;have SH:=hid (iO hrr hk h10 h47);have H92:=hid h92;have HN:=hid hN;clear h10 h47 h92 hN;go_wp2_with fail;refine SH.out.mono ?_;rintro r w1 ⟨rfl,h1,m1⟩;have h1:Cur w1 b src a:=h1;go_wp2_with fail;refine(df 92 h1 H92.out).mono ?_;rintro r w2 ⟨rfl,h2,m2⟩;have h2:Cur w2 b src a:=h2;have c1:=h2.c1;have f1:=h2.free 1;have B2:=hid ((HB.out.aj (m1.trans m2).kp (by simpa using hpb)).aj (Kp.setCell (S:=[b]) (p:=⟨b,1,none⟩) w2 (.int .i64 ((a:Int)+1)) (by simp)) (by simpa using hpb));go_wp2_with fail;go_round
    case rel=>exact⟨a+1,m,by omega,by omega,h2.step hk,hid (HM.out.trans ((m1.trans m2).trans (Mv.step _ _ _))),B2,HN⟩
    case measure=>rw[aE (h2.step hk),HAT.out];omega
   case true=>
    rw[h92,QB rfl] at hN;by_cases hk2:a+1<src.size/\saw src (a+1) 10=false
    case neg=>
     rw[Qw hk2] at hN;have HN:=hid hN;have hlv:leaves src (a+1)=true:=by
      unfold leaves;by_cases e:a+1=src.size
      .simp[e]
      .cases h10:saw src (a+1) 10
       .exact absurd ⟨by omega,h10⟩ hk2
       .simp
     have SH:=hid (iO hrr hk h10 h47);have H92:=hid h92;have HLV:=hid hlv;clear h10 h47 h92 hN hk2 hlv;go_wp2_with fail;refine SH.out.mono ?_;rintro r w1 ⟨rfl,h1,m1⟩;have h1:Cur w1 b src a:=h1;go_wp2_with fail;refine(df 92 h1 H92.out).mono ?_;rintro r w2 ⟨rfl,h2,m2⟩;have h2:Cur w2 b src (a+1):=h2;have m12:=m1.trans m2;go_wp2_with fail;refine(PA ⟨h2,((HM.out.trans m12).same 2 (by omega)).trans HC2.out⟩ HLV.out).mono ?_;rintro r w3 ⟨rfl,m3⟩;go_wp2_with fail;refine⟨rfl,?_⟩;rw[HRE.out,HN.out];exact⟨rfl,HM.out.trans (m12.trans m3)⟩
    rw[QB hk2] at hN;have SH:=hid (iO hrr hk h10 h47);have H92:=hid h92;have HN:=hid hN;have HK2:=hid hk2;clear h10 h47 h92 hN hk2;go_wp2_with fail;refine SH.out.mono ?_;rintro r w1 ⟨rfl,h1,m1⟩;have h1:Cur w1 b src a:=h1;go_wp2_with fail;refine(df 92 h1 H92.out).mono ?_;rintro r w2 ⟨rfl,h2,m2⟩;have h2:Cur w2 b src (a+1):=h2;go_wp2_with fail;refine(Pz h2 HK2.out.1 HK2.out.2).mono ?_;rintro r w3 ⟨rfl,h3,m3⟩;have c1:=h3.c1;have f1:=h3.free 1;have m13:=m1.trans (m2.trans m3);have B2:=hid ((HB.out.aj m13.kp (by simpa using hpb)).aj (Kp.setCell (S:=[b]) (p:=⟨b,1,none⟩) w3 (.int .i64 (((a+1:Nat):Int)+1)) (by simp)) (by simpa using hpb));have S3:=hid (h3.step HK2.out.1);have HCA:Hid (jc (w3.setCell ⟨b,1,none⟩ (.int .i64 ((a:Int)+1+1))) b=a+1+1):=hid (by simpa using aE S3.out);go_wp2_with fail;go_round
    case rel=>exact⟨a+1+1,m,by omega,by omega,S3.out,hid (HM.out.trans (m13.trans (Mv.step _ _ _))),B2,HN⟩
    case measure=>rw[HCA.out,HAT.out];omega
theorem pW(hr:tU w b src k)(hw:Nm w)(hbg:b≠4):Calls Tryz.prog 139 #[.pointer (some ⟨b,0,none⟩)] w (OutS (oL src k) (PatO b src w) b w):=by
 cases h47:saw src k 47
 .unfold oL;rw[h47,Qw (by simp)];have hlt:=hr.cur.lt;have k1:=Kp.alloc [] w (.cells #[.pointer none,.string ⟨#[]⟩] 84);have m1:Mv b w (w.alloc (.cells #[.pointer none,.string ⟨#[]⟩] 84)):=Mv.alloc hlt _;have EF:=hid (DZ 47 (hr.move m1 (hr.cur.aj k1 (by simp))) h47);go_enter Tryz.func139,Tryz.ntmps139
  go_wp2_with fail;refine EF.out.mono ?_;rintro r w1 ⟨rfl,m2⟩;go_wp2_with fail;exact⟨rfl,rfl,m1.trans m2⟩
 .refine I9 hr hw hbg h47 ?_;unfold oL;rw[h47,QB rfl]
  cases ptE src (src.size+1) (k+1) with
  | error pl=>rfl
  | ok e=>
   dsimp only
   cases iP (src.extract 0 (e-1)) (k+1) with
   | error q=>rfl
   | ok q=>rfl
end
