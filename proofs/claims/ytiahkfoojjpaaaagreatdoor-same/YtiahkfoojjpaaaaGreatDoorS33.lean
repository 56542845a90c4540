import Derived.Test.YtiahkfoojjpaaaaGreatDoorS29
set_option maxRecDepth 100000
set_option maxHeartbeats 16000000
set_option linter.all false
namespace Go.Proofs.YtiahkfoojjpaaaaGreatDoor
open Go.RowKit
section
variable {w w':World}{b k:Nat}{src:ByteArray}
theorem KY{M:Nat}(hre:tU w b src k)(hM:M<=2000):Calls Tryz.prog 145 #[.pointer (some ⟨b,0,none⟩),.int .i64 M] w (OutS (flt4 (toE src M (src.size+1) k [])) (fun p r w'=>r=.returned (.agg #[.string (src.extract k (p.1-1)),.string (ba p.2)])/\Cur w' b src p.1/\Mv b w w') b w):=by
 have hr:=hre.cur;have HC2:=hid hre.c2;clear hre;obtain⟨R,hR⟩:∃R,R=toE src M (src.size+1) k []:=⟨_,rfl⟩;rw[<-hR];have HRE:=hid hR;clear hR;have hsm:=hr.small;have hlt:=hr.lt;obtain⟨i0,hi,hz0,hz1,hz2⟩:=info_parts Tryz.infoByte;have HI:=hid (And.intro hi (And.intro hz0 (And.intro hz1 hz2)));clear hi hz0 hz1 hz2;have k1:=Kp.alloc [] w (.cells #[.string ⟨#[]⟩,.string ⟨#[]⟩] 82);have BP:=Bl.alloc w [.string ⟨#[]⟩,.string ⟨#[]⟩] 82;obtain⟨p,hp⟩:∃p,p=w.heap.size:=⟨_,rfl⟩;obtain⟨wt,hwp⟩:∃wt,wt=w.alloc (.cells #[.string ⟨#[]⟩,.string ⟨#[]⟩] 82):=⟨_,rfl⟩;have hr2:=hr.aj k1 (by simp);have m2:Mv b w wt:=by rw[hwp];exact⟨k1.mono (by simp),fun j _=>k1.cell (p:=⟨b,j,none⟩) hlt (by simp)⟩
 have hpb:p≠b:=by omega
 rw[<-hp,<-hwp] at BP;rw[<-hwp] at k1 hr2;have hpw:p<wt.heap.size:=BP.lt;have c1:=hr.c1;go_enter Tryz.func145,Tryz.ntmps145
 go_upto_region 1 with fail
 rw[<-hp,<-hwp];have HP:=hid hp;clear hp hwp c1;have c1:=hr2.c1;have hbs:=hid (QD wt.heap.size);have B2:=BP;clear k1 hr BP;go_wp2_with fail;go_loopw [6] (fun v wr=>∃a m acc,k<=a/\src.size+1<=a+m/\acc.length+k<=a/\acc.length<=M/\Cur wr b src a/\Hid (Mv b w wr)/\Hid (Bl wr p [.string ⟨#[]⟩,.string ⟨#[]⟩])/\Hid (wr.ownsRow wt.heap.size 5 1 v acc.length (Lib.byteCells acc))/\Hid (R=toE src M m a acc)/\Hid (wt.heap.size<=wr.heap.size)) (fun _ wr=>3000-jc wr b)
 case atStart=>exact⟨k,src.size+1,[],QD _,by omega,by simp,by simp,hr2,hid m2,hid B2,hid ⟨rfl,.inl ⟨rfl,rfl⟩⟩,HRE,hbs⟩
 case round=>
  clear hr2 m2 B2 HRE hbs c1;obtain⟨a,m,acc,hka,ham,hak,haM,hrr,HM,HB,HO,HN,HS⟩:=hrel;have HAT:=hid (aE hrr);have hle:=hrr.le
  match m,HN,ham with
  | 0,_,ham=>omega
  | m+1,HN,ham=>
  have hN:=HN.out;unfold toE at hN;clear HN;obtain⟨A5,cp5,e5,_,_⟩:=aZ HO.out;subst e5;by_cases hst:a<src.size/\saw src a 10=false
  case neg=>
   rw[Qw hst] at hN;have HN:=hid hN;have hlv:leaves src a=true:=by
    unfold leaves;by_cases e:a=src.size
    .simp[e]
    .cases h10:saw src a 10
     .exact absurd ⟨by omega,h10⟩ hst
     .simp
   have SF:=hid (CP ⟨hrr,(HM.out.same 2 (by omega)).trans HC2.out⟩ hlv);clear hN hlv hst;go_wp2_with fail;refine SF.out.mono ?_;rintro r w1 ⟨rfl,m1⟩;go_wp2_with fail;refine⟨rfl,?_⟩;rw[HN.out];exact⟨rfl,HM.out.trans m1⟩
  obtain⟨hk,h10⟩:=hst;rw[QB ⟨hk,h10⟩] at hN
  cases h47:saw src a 47
  case true=>
   rw[h47,QB rfl] at hN;by_cases hlM:acc.length<M
   case pos=>
    rw[QB hlM] at hN;have HN:=hid hN;have SH:=hid (iO hrr hk h10 h47);have e1:((a+1:Nat):Int)-1=(a:Int):=by omega
    have wd:=aa a (by omega);have hcmp:decide ((acc.length:Int)<(M:Int))=true:=by simp;omega
    clear h10 h47 hN;go_wp2_with fail;refine SH.out.mono ?_;rintro r w1 ⟨rfl,h1,m1⟩;have h1:Cur w1 b src (a+1):=h1;obtain⟨a1,ha1⟩:∃a1,a1=a+1:=⟨_,rfl⟩;rw[<-ha1] at h1 e1;have c1:=h1.c1;have f1:=h1.free 1;have S2:Hid (Cur (w1.setCell ⟨b,1,none⟩ (.int .i64 (a:Int))) b src a):=hid ⟨by simpa[World.setCell] using h1.lt,by omega,h1.small,by rw[aq _ (by simp)];exact h1.c0,by rw[aw _ h1.c1],fun i=>by simpa using h1.free i⟩;have m2:=m1.trans (Mv.step b w1 (.int .i64 (a:Int)));clear ha1;go_wp2_with fail;refine(dF ⟨S2.out,((HM.out.trans m2).same 2 (by omega)).trans HC2.out⟩).mono ?_;rintro r w3 ⟨rfl,m3⟩;go_wp2_with fail;refine⟨rfl,?_⟩;rw[HN.out];exact⟨rfl,HM.out.trans (m2.trans m3)⟩
   rw[Qw hlM] at hN;have HN:=hid hN;have hcmp:decide ((acc.length:Int)<(M:Int))=false:=by simp;omega
   clear hN;have SH:=hid (iO hrr hk h10 h47);clear h10 h47;go_wp2_with fail;refine SH.out.mono ?_;rintro r w1 ⟨rfl,h1,m1⟩;have B1:=hid (HB.out.aj m1.kp (by simpa using hpb));have gb:∀g,(Value.slice A5 acc.length cp5).ownBlock=some g->wt.heap.size<=g:=fun g hg=>(aA HO.out hg).1;have hbl:b<wt.heap.size:=by have:=HP.out;omega
   have O1:=ag HO.out (fun g hg=>m1.kp.block g (aA HO.out hg).2 (by have:=gb g hg;simp;omega));have O2:=ag O1 (fun g hg=>(Kp.drew [] w1).block g (aA O1 hg).2 (by simp));have hcv:=iC O2;have B2:=hid (B1.out.aj (Kp.drew [] w1) (by simp));have M2:=hid ((HM.out.trans m1).trans (Mv.drew b w1));have h2:=h1.drew;have hkl:a<=src.size:=by omega
   have wd:=aa a (by omega);have e1:((a+1:Nat):Int)-1=(a:Int):=by omega
   have hS:(fun w':World=>w'.cell? ⟨b,0,none⟩=some (.string src)/\w'.cell? ⟨b,1,none⟩=some (.int .i64 ((a+1:Nat):Int))/\(convert 49 9 (.slice A5 acc.length cp5)).run Tryz.prog w'=.ok (.string (ba acc)) w') w1.drew:=⟨h2.c0,h2.c1,hcv⟩;obtain⟨a1,ha1⟩:∃a1,a1=a+1:=⟨_,rfl⟩;rw[<-ha1] at hS e1 h2;have HA1:=hid ha1;clear hcv O1 O2 HO h1 SH gb;go_upto_region 10 with fail
   refine az (fun w':World=>w'.cell? ⟨b,0,none⟩=some (.string src)/\w'.cell? ⟨b,1,none⟩=some (.int .i64 (a1:Int))/\(convert 49 9 (.slice A5 acc.length cp5)).run Tryz.prog w'=.ok (.string (ba acc)) w') 16 (by kernel_rfl) ?_;clear ha1;obtain⟨w2,hw2⟩:∃w2,w2=w1.drew:=⟨_,rfl⟩;rw[<-hw2] at hS B2 M2 h2 ⊢;clear hw2 B1;iterate 16(refine tkn (v:=?_) rfl (by kernel_rfl) (fun _ _ _ h=>h) ⟨rfl,fun w hSw=>?_⟩ hS ?_;rotate_left;(focus((try dsimp only at hSw);go_simp;(try with_reducible rfl)));(try simp only[Qt,Qs,Qr,Act.put,Qq,Qu,Qv]))
   refine ai (i:=16) (by kernel_rfl) rfl (fun K hK=>?_);have p0:=B2.out.at_ 0 _ rfl;have p1:=B2.out.at_ 1 _ rfl;have q0:=B2.out.free 0;have q1:=B2.out.free 1;go_simp;refine hK.out _ _ (.inl rfl) ?_;clear hK K p0 p1 q0 q1 hS;refine ax (by kernel_rfl) ?_ _;have B3:Bl ((w2.setCell ⟨p,0,none⟩ (.string (src.extract k a))).setCell ⟨p,1,none⟩ (.string (ba acc))) p [.string (src.extract k a),.string (ba acc)]:=(B2.out.set 0 _ (by simp)).set 1 _ (by simp);have ks:Kp [p] w2 ((w2.setCell ⟨p,0,none⟩ (.string (src.extract k a))).setCell ⟨p,1,none⟩ (.string (ba acc))):=(Kp.setCell _ _ (by simp)).trans (Kp.setCell _ _ (by simp));obtain⟨w3,hw3⟩:∃w3,w3=(w2.setCell ⟨p,0,none⟩ (.string (src.extract k a))).setCell ⟨p,1,none⟩ (.string (ba acc)):=⟨_,rfl⟩;rw[<-hw3] at B3 ks ⊢;clear hw3;have p0:=B3.at_ 0 _ rfl;have p1:=B3.at_ 1 _ rfl;go_wp2_with fail;refine bodyPost_ret (eX (p:=4) (ty:=82) (by rw[Tryz.results145]) _ _ p 0 rfl _ _ B3.range Tryz.underlying82 rfl (by rw[Tryz.ye];rfl)) rfl ?_
   rw[HN.out];refine⟨rfl,?_,M2.out.past ks hlt (fun q hq=>by simp at hq;have:=HP.out;omega)⟩;show Cur w3 b src (a+1);rw[<-HA1.out];exact h2.aj ks (by simpa using Ne.symm hpb)
  case false=>
   rw[h47,Qw (by simp)] at hN;have SH:=hid (iO hrr hk h10 h47);by_cases hlM:acc.length=M
   case pos=>
    rw[QB hlM] at hN;have HN:=hid hN;have hcmp:((acc.length:Int)==(M:Int))=true:=by simp[hlM]
    clear h10 h47 hN hlM;go_wp2_with fail;refine SH.out.mono ?_;rintro r w1 ⟨rfl,h1,m1⟩;have h1:Cur w1 b src a:=h1;go_wp2_with fail;refine(dF ⟨h1,((HM.out.trans m1).same 2 (by omega)).trans HC2.out⟩).mono ?_;rintro r w3 ⟨rfl,m3⟩;go_wp2_with fail;refine⟨rfl,?_⟩;rw[HN.out];exact⟨rfl,HM.out.trans (m1.trans m3)⟩
   rw[Qw hlM] at hN;have hcmp:((acc.length:Int)==(M:Int))=false:=by rw[Qz];omega
   clear h10 h47;go_wp2_with fail;refine SH.out.mono ?_;rintro r w1 ⟨rfl,h1,m1⟩;have h1:Cur w1 b src a:=h1;have PT:=hid (Dt D0 ⟨h1,((HM.out.trans m1).same 2 (by omega)).trans HC2.out⟩ hk);unfold D0 at PT
   cases hp:gX src D0 a with
   | error pl=>
    rw[hp] at hN;unfold D0 at hp;rw[hp] at PT;have HN:=hid hN;clear hN hp;go_wp2_with fail;refine PT.out.mono ?_;rintro r w3 ⟨rfl,m3⟩;go_wp2_with fail;refine⟨rfl,?_⟩;rw[HN.out];exact⟨rfl,HM.out.trans (m1.trans m3)⟩
   | ok q=>
   obtain⟨l,x⟩:=q;have hll:=dC hp;rw[hp] at hN;unfold D0 at hp;rw[hp] at PT;replace hN:R=toE src M m l (acc++[x]):=hN;have HN:=hid hN;clear hN hp;go_wp2_with fail;refine PT.out.mono ?_;rintro r w3 ⟨rfl,h3,m2⟩;have h3:Cur w3 b src l:=h3;have m12:=m1.trans m2;obtain⟨y,hy⟩:∃y:Nat,y=x.toNat:=⟨_,rfl⟩;rw[show((l,x):Nat×UInt8).2.toNat=y from hy.symm];have HY:=hid hy;have gb:∀g,(Value.slice A5 acc.length cp5).ownBlock=some g->wt.heap.size<=g:=fun g hg=>(aA HO.out hg).1;have hbl:b<wt.heap.size:=by have:=HP.out;omega
   have HO3:=hid (ag HO.out (fun g hg=>m12.kp.block g (aA HO.out hg).2 (by have:=gb g hg;simp;omega)));have HB2:=hid (HB.out.aj m12.kp (by simpa using hpb));have hsz:acc.length<=2000:=by omega
   have M13:=hid m12;have hbs3:Hid (wt.heap.size<=w3.heap.size):=hid (QC HS.out m12.kp.size);have GB:=hid gb;clear hy m12 m1 m2 h1 gb;go_wp2_with (at_builtin;refine dP rfl _ _ 49 rfl wt.heap.size 5 i0 (.int .u8 0) 1 1 Tryz.underlying49 HI.out.1 HI.out.2.1 HI.out.2.2.1 HI.out.2.2.2 rfl (by decide) (.slice A5 acc.length cp5) acc.length (Lib.byteCells acc) rfl (ag HO3.out (fun p hp=>(Kp.alloc [] w3 _).block p (aA HO3.out hp).2 (by simp))) ⟨w3.heap.size,0,none⟩ 1 1 [.int .u8 y] rfl rfl (fun j u hu=>by rw[Addr.add_mid,QH];exact(Bl.alloc w3 [.int .u8 y] 5).at_ j u hu) (fun u hu=>by simp at hu;subst hu;rfl) (by unfold maxLen;omega) (by omega) (QC hbs3.out (Kp.alloc [] w3 _).size) (by omega) ?_;intro g4 cap4 w4 ho4 hg4 hor4)
   have ka:=Kp.alloc [] w3 (.cells #[.int .u8 y] 5);have kg:Kp (Value.slice A5 acc.length cp5).ownBlock.toList w3 w4:=(ka.mono (by simp)).trans (aX (S:=(Value.slice A5 acc.length cp5).ownBlock.toList) hg4 (fun q hq=>by rw[hq];simp));have gm:∀q,q∈(Value.slice A5 acc.length cp5).ownBlock.toList->wt.heap.size<=q:=fun q hq=>GB.out q (by simpa using hq);have hbw:wt.heap.size<=w4.heap.size:=QC hbs3.out kg.size;have hww:w.heap.size<=wt.heap.size:=by have:=HP.out;omega
   have h4:=h3.aj kg (fun q=>by have:=gm b q;omega);have P4:Hid (Bl w4 p [.string ⟨#[]⟩,.string ⟨#[]⟩]):=hid (HB2.out.aj kg (fun q=>by have:=gm p q;omega));have M4:Hid (Mv b w w4):=hid ((HM.out.trans M13.out).past kg hlt (fun q hq=>by have:=gm q hq;omega))
   have O4:Hid (w4.ownsRow wt.heap.size 5 1 (.slice (some ⟨g4,0,none⟩) (acc.length+1) cap4) (acc++[x]).length (Lib.byteCells (acc++[x]))):=hid (by
    have e1:Lib.byteCells (acc++[x])=Lib.byteCells acc++[.int .u8 y]:=by rw[HY.out];simp[Lib.byteCells]
    rw[e1,Qy]
    exact ho4)
   have HCA:=hid (aE h4);go_round
   case rel=>exact⟨l,m,acc++[x],by omega,by omega,by simp;omega,by simp;omega,h4,M4,P4,O4,HN,hid hbw⟩
   case measure=>rw[HCA.out,HAT.out];omega
theorem qJ(hre:tU w b src k):Calls Tryz.prog 144 #[.pointer (some ⟨b,0,none⟩)] w (OutS (flt4 (gG src (src.size+1) k [])) (fun p r w'=>r=.returned (.agg #[.string (src.extract k (p.1-1)),.string (ba p.2)])/\Cur w' b src p.1/\Mv b w w') b w):=by
 have hr:=hre.cur;have HC2:=hid hre.c2;clear hre;obtain⟨R,hR⟩:∃R,R=gG src (src.size+1) k []:=⟨_,rfl⟩;rw[<-hR];have HRE:=hid hR;clear hR;have hsm:=hr.small;have hlt:=hr.lt;have c1:=hr.c1;obtain⟨i0,hi,hz0,hz1,hz2⟩:=info_parts Tryz.infoByte;have HI:=hid (And.intro hi (And.intro hz0 (And.intro hz1 hz2)));clear hi hz0 hz1 hz2;go_enter Tryz.func144,Tryz.ntmps144
 have k1:=Kp.alloc [] w (.cells #[.string ⟨#[]⟩,.string ⟨#[]⟩] 82);have BP:=Bl.alloc w [.string ⟨#[]⟩,.string ⟨#[]⟩] 82;obtain⟨p,hp⟩:∃p,p=w.heap.size:=⟨_,rfl⟩;obtain⟨wp,hwp⟩:∃wp,wp=w.alloc (.cells #[.string ⟨#[]⟩,.string ⟨#[]⟩] 82):=⟨_,rfl⟩;have hr1:=hr.aj k1 (by simp);have m1:Mv b w wp:=by rw[hwp];exact⟨k1.mono (by simp),fun j _=>k1.cell (p:=⟨b,j,none⟩) hlt (by simp)⟩
 have hpb:p≠b:=by omega
 rw[<-hp,<-hwp] at BP;rw[<-hwp] at k1 hr1;have hpw:p<wp.heap.size:=BP.lt;have c1:=hr1.c1;go_upto_region 2 with fail
 rw[<-hp,<-hwp];have HP:=hid hp;clear hp hwp;have k2:=Kp.alloc [] wp (.cells (List.replicate 256 (Value.bool false)).toArray 212);have A0:=Arr.of wp (.bool false) 212;have hr2:=hr1.aj k2 (by simp);have B2:=BP.aj k2 (by simp);obtain⟨t,ht⟩:∃t,t=wp.heap.size:=⟨_,rfl⟩;have m2:Mv b w (wp.alloc (.cells (List.replicate 256 (Value.bool false)).toArray 212)):=m1.trans ⟨k2.mono (by simp),fun j _=>k2.cell (p:=⟨b,j,none⟩) hr1.lt (by simp)⟩;obtain⟨wt,hwt⟩:∃wt,wt=wp.alloc (.cells (List.replicate 256 (Value.bool false)).toArray 212):=⟨_,rfl⟩;rw[<-ht,<-hwt] at A0;rw[<-hwt] at hr2 B2 m2 k2;have htp:p<t:=by omega
 have HT:=hid ht;have htb:t≠b:=by have:=hr1.lt;omega
 have htl:=A0.lt;have hbs:=hid (QD wt.heap.size);have HTL:=hid htl;clear c1 k1 k2 m1 BP hr1 hr htl;go_upto_region 3 with fail
 rw[zeroB,<-ht,<-hwt];clear ht hwt;go_wp2_with fail;go_loopw [5,6,7] (fun v _ _ wr=>∃a m acc,k<=a/\src.size+1<=a+m/\acc.length+k<=a/\Cur wr b src a/\Hid (Mv b w wr)/\Hid (Bl wr p [.string ⟨#[]⟩,.string ⟨#[]⟩])/\Hid (Arr wr t (fun j=>.bool (acc.contains j.toUInt8)))/\Hid (wr.ownsRow wt.heap.size 5 1 v acc.length (Lib.byteCells acc))/\Hid (R=gG src m a acc)/\Hid (wt.heap.size<=wr.heap.size)) (fun _ _ _ wr=>3000-jc wr b)
 case atStart=>exact⟨k,src.size+1,[],QD _,by omega,by simp,hr2,hid m2,hid B2,hid A0,hid ⟨rfl,.inl ⟨rfl,rfl⟩⟩,HRE,hbs⟩
 case round=>
  clear hr2 m2 B2 A0 HRE hbs;obtain⟨a,m,acc,hka,ham,hak,hrr,HM,HB,HA,HO,HN,HS⟩:=hrel;have HAT:=hid (aE hrr);have hle:=hrr.le
  match m,HN,ham with
  | 0,_,ham=>omega
  | m+1,HN,ham=>
  have hN:=HN.out;unfold gG at hN;clear HN;by_cases hst:a<src.size/\saw src a 10=false
  case neg=>
   rw[Qw hst] at hN;have HN:=hid hN;have hlv:leaves src a=true:=by
    unfold leaves;by_cases e:a=src.size
    .simp[e]
    .cases h10:saw src a 10
     .exact absurd ⟨by omega,h10⟩ hst
     .simp
   have SF:=hid (CP ⟨hrr,(HM.out.same 2 (by omega)).trans HC2.out⟩ hlv);clear hN hlv hst;go_wp2_with fail;refine SF.out.mono ?_;rintro r w1 ⟨rfl,m1⟩;go_wp2_with fail;refine⟨rfl,?_⟩;rw[HN.out];exact⟨rfl,HM.out.trans m1⟩
  obtain⟨hk,h10⟩:=hst;rw[QB ⟨hk,h10⟩] at hN
  cases h47:saw src a 47
  case true=>
   rw[h47,QB rfl] at hN;have HN:=hid hN;clear hN;have SH:=hid (iO hrr hk h10 h47);clear h10 h47;go_wp2_with fail;refine SH.out.mono ?_;rintro r w1 ⟨rfl,h1,m1⟩;have c0:=h1.c0;have c1:=h1.c1;have B1:=hid (HB.out.aj m1.kp (by simpa using hpb));have gb:∀g,u5.ownBlock=some g->wt.heap.size<=g:=fun g hg=>(aA HO.out hg).1;have hbl:b<wt.heap.size:=by have:=HP.out;have:=HTL.out;omega
   have O1:=ag HO.out (fun g hg=>m1.kp.block g (aA HO.out hg).2 (by have:=gb g hg;simp;omega));have O2:=ag O1 (fun g hg=>(Kp.drew [] w1).block g (aA O1 hg).2 (by simp));have hcv:=iC O2;have B2:=hid (B1.out.aj (Kp.drew [] w1) (by simp));have M2:=hid ((HM.out.trans m1).trans (Mv.drew b w1));have h2:=h1.drew;have hkl:a<=src.size:=by omega
   have wd:=aa a (by omega);have e1:((a+1:Nat):Int)-1=(a:Int):=by omega
   have hS:(fun w':World=>w'.cell? ⟨b,0,none⟩=some (.string src)/\w'.cell? ⟨b,1,none⟩=some (.int .i64 ((a+1:Nat):Int))/\(convert 49 9 u5).run Tryz.prog w'=.ok (.string (ba acc)) w') w1.drew:=⟨h2.c0,h2.c1,hcv⟩;obtain⟨a1,ha1⟩:∃a1,a1=a+1:=⟨_,rfl⟩;rw[<-ha1] at hS e1 h2;have HA1:=hid ha1;clear c0 c1 hcv O1 O2 HA HO h1 SH;go_upto_region 12 with fail
   refine az (fun w':World=>w'.cell? ⟨b,0,none⟩=some (.string src)/\w'.cell? ⟨b,1,none⟩=some (.int .i64 (a1:Int))/\(convert 49 9 u5).run Tryz.prog w'=.ok (.string (ba acc)) w') 16 (by kernel_rfl) ?_;clear ha1;obtain⟨w2,hw2⟩:∃w2,w2=w1.drew:=⟨_,rfl⟩;rw[<-hw2] at hS B2 M2 h2 ⊢;clear hw2 B1;iterate 16(refine tkn (v:=?_) rfl (by kernel_rfl) (fun _ _ _ h=>h) ⟨rfl,fun w hSw=>?_⟩ hS ?_;rotate_left;(focus((try dsimp only at hSw);go_simp;(try with_reducible rfl)));(try simp only[Qt,Qs,Qr,Act.put,Qq,Qu,Qv]))
   refine ai (i:=16) (by kernel_rfl) rfl (fun K hK=>?_);have p0:=B2.out.at_ 0 _ rfl;have p1:=B2.out.at_ 1 _ rfl;have q0:=B2.out.free 0;have q1:=B2.out.free 1;go_simp;refine hK.out _ _ (.inl rfl) ?_;clear hK K p0 p1 q0 q1 hS;refine ax (by kernel_rfl) ?_ _;have B3:Bl ((w2.setCell ⟨p,0,none⟩ (.string (src.extract k a))).setCell ⟨p,1,none⟩ (.string (ba acc))) p [.string (src.extract k a),.string (ba acc)]:=(B2.out.set 0 _ (by simp)).set 1 _ (by simp);have ks:Kp [p] w2 ((w2.setCell ⟨p,0,none⟩ (.string (src.extract k a))).setCell ⟨p,1,none⟩ (.string (ba acc))):=(Kp.setCell _ _ (by simp)).trans (Kp.setCell _ _ (by simp));obtain⟨w3,hw3⟩:∃w3,w3=(w2.setCell ⟨p,0,none⟩ (.string (src.extract k a))).setCell ⟨p,1,none⟩ (.string (ba acc)):=⟨_,rfl⟩;rw[<-hw3] at B3 ks ⊢;clear hw3;have p0:=B3.at_ 0 _ rfl;have p1:=B3.at_ 1 _ rfl;go_wp2_with fail;refine bodyPost_ret (eX (p:=2) (ty:=82) (by rw[Tryz.results144]) _ _ p 0 rfl _ _ B3.range Tryz.underlying82 rfl (by rw[Tryz.ye];rfl)) rfl ?_
   rw[HN.out];refine⟨rfl,?_,M2.out.past ks hlt (fun q hq=>by simp at hq;have:=HP.out;omega)⟩;show Cur w3 b src (a+1);rw[<-HA1.out];exact h2.aj ks (by simpa using Ne.symm hpb)
  case false=>
   rw[h47,Qw (by simp)] at hN;have SH:=hid (iO hrr hk h10 h47);clear h10 h47;go_wp2_with fail;refine SH.out.mono ?_;rintro r w1 ⟨rfl,h1,m1⟩;have h1:Cur w1 b src a:=h1;have c1:=h1.c1;have PT:=hid (Dt D0 ⟨h1,((HM.out.trans m1).same 2 (by omega)).trans HC2.out⟩ hk);unfold D0 at PT
   cases hp:gX src D0 a with
   | error pl=>
    rw[hp] at hN;unfold D0 at hp;rw[hp] at PT;have HN:=hid hN;clear hN hp;go_wp2_with fail;refine PT.out.mono ?_;rintro r w3 ⟨rfl,m3⟩;go_wp2_with fail;refine⟨rfl,?_⟩;rw[HN.out];exact⟨rfl,HM.out.trans (m1.trans m3)⟩
   | ok q=>
   obtain⟨l,x⟩:=q;have hll:=dC hp;rw[hp] at hN;unfold D0 at hp;rw[hp] at PT;replace hN:R=if acc.contains x=true then .error a else gG src m l (acc++[x]):=hN;clear hp
   cases hct:acc.contains x
   case true=>
    rw[hct,QB rfl] at hN;have HN:=hid hN;have HC:=hid hct;clear hN hct;go_wp2_with fail;refine PT.out.mono ?_;rintro r w2 ⟨rfl,h2,m2⟩;have h2:Cur w2 b src l:=h2;have m12:=m1.trans m2;have HA2:=hid (HA.out.aj m12.kp (by simpa using htb));have hx256:x.toNat<256:=Rc _;have hcx:=HA2.out.at_ x.toNat hx256;rw[show x.toNat.toUInt8=x from UInt8.toNat_inj.1 (by simp),HC.out] at hcx;obtain⟨y,hy⟩:∃y:Nat,y=x.toNat:=⟨_,rfl⟩;rw[<-hy] at hcx hx256;rw[show((l,x):Nat×UInt8).2.toNat=y from hy.symm];have d1:=h2.c1;have f1:=h2.free 1;have S3:Hid (Cur (w2.setCell ⟨b,1,none⟩ (.int .i64 (a:Int))) b src a):=hid ⟨by simpa[World.setCell] using h2.lt,by omega,h2.small,by rw[aq _ (by simp)];exact h2.c0,by rw[aw _ h2.c1],fun i=>by simpa using h2.free i⟩;have m3:=m12.trans (Mv.step b w2 (.int .i64 (a:Int)));clear hy c1;go_wp2_with fail;refine(dF ⟨S3.out,((HM.out.trans m3).same 2 (by omega)).trans HC2.out⟩).mono ?_
    rintro r w4 ⟨rfl,m4⟩;go_wp2_with fail;refine⟨rfl,?_⟩;rw[HN.out];exact⟨rfl,HM.out.trans (m3.trans m4)⟩
   rw[hct,Qw (by simp)] at hN;have HN:=hid hN;have HC:=hid hct;clear hN hct;go_wp2_with fail;refine PT.out.mono ?_;rintro r w2 ⟨rfl,h2,m2⟩;have h2:Cur w2 b src l:=h2;have m12:=m1.trans m2;have HA2:=hid (HA.out.aj m12.kp (by simpa using htb));have HB2:=hid (HB.out.aj m12.kp (by simpa using hpb));have hx256:x.toNat<256:=Rc _;have hcx:=HA2.out.at_ x.toNat hx256;rw[show x.toNat.toUInt8=x from UInt8.toNat_inj.1 (by simp),HC.out] at hcx;have hfx:=HA2.out.free x.toNat;obtain⟨y,hy⟩:∃y:Nat,y=x.toNat:=⟨_,rfl⟩;rw[<-hy] at hcx hfx hx256;rw[show((l,x):Nat×UInt8).2.toNat=y from hy.symm];have HY:=hid hy;have gb:∀g,u5.ownBlock=some g->wt.heap.size<=g:=fun g hg=>(aA HO.out hg).1;have htl:=HTL.out;have hbl:b<wt.heap.size:=by have:=HP.out;omega
   have HO2:=hid (ag HO.out (fun g hg=>m12.kp.block g (aA HO.out hg).2 (by have:=gb g hg;simp;omega)));have ks:Kp [t] w2 (w2.setCell ⟨t,y,none⟩ (.bool true)):=Kp.setCell _ _ (by simp);have HO3:=hid (ag HO2.out (fun g hg=>ks.block g (aA HO2.out hg).2 (by have:=gb g hg;simp;omega)));obtain⟨w3,hw3⟩:∃w3,w3=w2.setCell ⟨t,y,none⟩ (.bool true):=⟨_,rfl⟩;rw[<-hw3] at ks HO3;have h3:Cur w3 b src l:=h2.aj ks (by simpa using Ne.symm htb)
   have HA3:Hid (Arr w3 t (fun j=>.bool ((acc++[x]).contains j.toUInt8))):=hid (by
    rw[hw3];refine(HA2.out.set hx256).mono (fun j hj=>?_);by_cases ej:j=y
    .rw[QB ej,ej,HY.out,show x.toNat.toUInt8=x from UInt8.toNat_inj.1 (by simp)];simp
    .rw[Qw ej];have hne:¬(UInt8.ofNat j=x):=fun q=>ej (by rw[HY.out,<-q,QV (by simpa using hj)])
     simp[hne])
   have hsz:acc.length<=2000:=by omega
   clear hy;go_upto_region 11 with fail
   rw[<-hw3];have HW3:=hid hw3;have M13:=hid m12;have HKS:=hid ks;have hbs3:Hid (wt.heap.size<=w3.heap.size):=hid (QC HS.out (QC m12.kp.size ks.size));clear hw3 hcx hfx ks m12 m1 m2 h1 h2 c1;go_wp2_with (at_builtin;refine dP rfl _ _ 49 rfl wt.heap.size 5 i0 (.int .u8 0) 1 1 Tryz.underlying49 HI.out.1 HI.out.2.1 HI.out.2.2.1 HI.out.2.2.2 rfl (by decide) u5 acc.length (Lib.byteCells acc) rfl (ag HO3.out (fun p hp=>(Kp.alloc [] w3 _).block p (aA HO3.out hp).2 (by simp))) ⟨w3.heap.size,0,none⟩ 1 1 [.int .u8 y] rfl rfl (fun j u hu=>by rw[Addr.add_mid,QH];exact(Bl.alloc w3 [.int .u8 y] 5).at_ j u hu) (fun u hu=>by simp at hu;subst hu;rfl) (by unfold maxLen;omega) (by omega) (QC hbs3.out (Kp.alloc [] w3 _).size) (by omega) ?_;intro g4 cap4 w4 ho4 hg4 hor4)
   have ka:=Kp.alloc [] w3 (.cells #[.int .u8 y] 5);have kg:Kp u5.ownBlock.toList w3 w4:=(ka.mono (by simp)).trans (aX (S:=u5.ownBlock.toList) hg4 (fun q hq=>by rw[hq];simp));have gm:∀q,q∈u5.ownBlock.toList->wt.heap.size<=q:=fun q hq=>gb q (by simpa using hq);have hbw:wt.heap.size<=w4.heap.size:=QC hbs3.out kg.size;have htw:w.heap.size<=t:=by have:=HP.out;omega
   have hww:w.heap.size<=wt.heap.size:=by omega
   have HKG:=hid kg;have h4:=h3.aj kg (fun q=>by have:=gm b q;omega);have P4:Hid (Bl w4 p [.string ⟨#[]⟩,.string ⟨#[]⟩]):=hid ((HB2.out.aj HKS.out (by simp;omega)).aj kg (fun q=>by have:=gm p q;omega));have A4:=hid (HA3.out.aj kg (fun q=>by have:=gm t q;omega));have M4:Hid (Mv b w w4):=hid (((HM.out.trans M13.out).past HKS.out hlt (fun q hq=>by simp at hq;omega)).past kg hlt (fun q hq=>by have:=gm q hq;omega))
   have O4:Hid (w4.ownsRow wt.heap.size 5 1 (.slice (some ⟨g4,0,none⟩) (acc.length+1) cap4) (acc++[x]).length (Lib.byteCells (acc++[x]))):=hid (by
    have e1:Lib.byteCells (acc++[x])=Lib.byteCells acc++[.int .u8 y]:=by rw[HY.out];simp[Lib.byteCells]
    rw[e1,Qy]
    exact ho4)
   have HCA:=hid (aE h4);go_round
   case rel=>exact⟨l,m,acc++[x],by omega,by omega,by simp;omega,h4,M4,P4,A4,O4,HN,hid hbw⟩
   case measure=>rw[HCA.out,HAT.out];omega
end
