import Derived.Test.YtiahkfoojjpaaaaGreatDoorS29
set_option maxRecDepth 100000
set_option maxHeartbeats 16000000
set_option linter.all false
namespace Go.Proofs.YtiahkfoojjpaaaaGreatDoor
open Go.RowKit Go.Shelf
attribute [local go_sem] Oper.semAt_some
variable {Z:List (Nat×Obj)}
def ItsG(cd:Nat->In)(n D:Nat)(text:ByteArray)(bg:Nat):List (Nat->Int)->Nat->Mc->Prop
 | [],fr,s=>∀s',oW cd n D text bg (text.size+1-fr) fr [] { s with fd:=false} s'->s'.fd=false
 | b::bs,fr,s=>∀s',oW cd n D text bg (text.size+1-fr) fr [] { s with fd:=false} s'->s'.fd=true/\s'.fc=b/\∃fr':Nat,b 1=(fr':Int)/\uns s'.sn 0 ((text.size+1)*(n*(D+1)))<uns s.sn 0 ((text.size+1)*(n*(D+1)))/\fr'<=text.size+1/\ItsG cd n D text bg bs fr' s'
theorem I0{w:World}{p g c n D bg G bt bp l:Nat}{text:ByteArray}{cd:Nat->In}{bs:List (Nat->Int)}{CV:List Nat}{Bd:Nat->List (Nat×Obj)->World->Prop}{X:World->Prop}(hcd:Cd w p g c n D cd)(p1:w.cell? ⟨p,1,none⟩=some (.int .i64 bg))(p2:w.cell? ⟨p,2,none⟩=some (.int .i64 G))(hbg:bg<n)(hn:n*(D+1)<=9000)(hG:G<=9)(htx:text.size<=5000)(hbt:w.cell? ⟨bt,0,none⟩=some (.string text))(hbp:w.cell? ⟨bp,0,none⟩=some (.pointer (some ⟨p,0,none⟩)))(hCV:∀T∈CV,T<w.heap.size/\T≠p/\T≠g/\T≠bt/\T≠bp)(hIts:ItsG cd n D text bg bs 0 mc0)(hkeep:∀i Z W W',Bd i Z W->(∀j,j<w.heap.size->W'.heap[j]? = W.heap[j]?)->(∀e∈Z,W'.heap[e.1]? = some e.2)->W'.os=W.os->W'.tape=W.tape->W'.output=W.output->Bd i Z W')(h0:Bd 0 [] w)(hY:∀(W1:World) (f m i:Nat) (b:Nat->Int) (Z:List (Nat×Obj)),bs[i]? = some b->Bd i Z W1->W1.rangeAt f 8 (nf b)->w.heap.size<=f->(∀e∈Z,e.1≠f) -> YieldAt Fence.wide m Tryz.prog l #[.slice (some ⟨f,8,none⟩) (2+2*G) 20] W1 fun e W'=>∃S Z2,Kp S W1 W'/\(∀T∈S,T∈CV\/∃o,(T,o)∈Z)/\(∀e∈Z2,W'.heap[e.1]? = some e.2/\((∃o,(e.1,o)∈Z)\/W1.heap.size<=e.1))/\((e=.returned (.bool true)/\Bd (i+1) Z2 W')\/(e=.returned (.bool false)/\X W'))):Calls Tryz.prog 89 #[.func (.yield l) #[] #[],.pointer (some ⟨bt,0,none⟩),.pointer (some ⟨bp,0,none⟩)] w fun e w'=>(∃v,e=.returned v)/\((∃Z,Bd bs.length Z w')\/X w'):=by
 have HKEEP:=hid hkeep;have H0:=hid h0;have HI:=hid hIts;have HCV:=hid hCV;clear hkeep h0 hIts hCV;have HCD:=hid hcd;have P1:=hid p1;have P2:=hid p2;have HY:=hid hY;have p0:=hcd.p0;have p3:=hcd.p3;obtain⟨Q,hQ⟩:∃Q,Q=n*(D+1):=⟨_,rfl⟩;rw[<-hQ] at hn;obtain⟨D1,hD1⟩:∃D1:Nat,(D:Int)+1=D1:=⟨D+1,by omega⟩;obtain⟨T1,hT1⟩:∃T1:Nat,(text.size:Int)+1=T1:=⟨text.size+1,by omega⟩;obtain⟨A1,hA1⟩:∃A1:Nat,(T1:Int)*(n:Int)=A1:=⟨T1*n,by push_cast;rfl⟩;obtain⟨S1,hS1⟩:∃S1:Nat,(A1:Int)*(D1:Int)=S1:=⟨A1*D1,by push_cast;rfl⟩;have eS1:S1=(text.size+1)*Q:=by
  have e1:D1=D+1:=by omega
  have e2:T1=text.size+1:=by omega
  have e3:A1=T1*n:=by exact_mod_cast hA1.symm
  have e4:S1=A1*D1:=by exact_mod_cast hS1.symm
  rw[e4,e3,e2,e1,hQ,Nat.mul_assoc]
 have hS1b:S1<=46000000:=by
  rw[eS1];exact QC (RI (show text.size+1<=5001 by omega) hn) (by decide)
 have hDn:D1<=9000:=by
  have h1:=QN (D+1) (show 1<=n by omega);rw[<-hQ] at h1;omega
 have hA1b:A1<=S1:=by
  have e4:S1=A1*D1:=by exact_mod_cast hS1.symm
  rw[e4];exact Nat.le_mul_of_pos_right _ (by omega)
 have w1:=aa D1 (by omega);have w2:=aa T1 (by omega);have w3:=aa A1 (by omega);have w4:=aa S1 (by omega);have HQ:=hid (And.intro hQ eS1);have HE:=hid (And.intro hD1 (And.intro hT1 (And.intro hA1 hS1)));clear hcd p1 p2 hY hQ eS1;go_enter Tryz.func89,Tryz.ntmps89
 go_wp2_with fail;go_quiet (fail);have kq:=Kp.drewN [] w nq;have qt:(w.drewN nq).cell? ⟨bt,0,none⟩=some (.string text):=hbt;have qp:(w.drewN nq).cell? ⟨bp,0,none⟩=some (.pointer (some ⟨p,0,none⟩)):=hbp;have hz:Hid ((w.drewN nq).heap.size=w.heap.size):=hid (by simp);generalize w.drewN nq=U at *;clear hbt hbp p0 p3 w1 w2 w3 w4 hD1 hT1 hA1 hS1;obtain⟨N,hN⟩:∃N:Nat,N=S1/64+1:=⟨_,rfl⟩;have hN2:Hid ((text.size+1)*Q<=64*N):=hid (by rw[<-HQ.out.2];omega);have hNb:N<=1000000:=by omega
 obtain⟨M1,hM1⟩:∃M1:Nat,M1=S1/64:=⟨_,rfl⟩;have hdiv:(S1:Int)/64=(M1:Int):=by omega
 have hsum:(M1:Int)+1=(N:Int):=by omega
 have wM:=aa M1 (by omega);clear hM1;have wN:=aa N (by omega);have hmk:=fun w=>ta w N hNb;have HN:=hid hN;clear hN;go_wp2_with fail;rename_i K1 hK1;have HK1:=hid hK1;clear hK1;refine wp_region_noPanic ?_;refine az (fun w':World=>w'.cell? ⟨bp,0,none⟩=some (.pointer (some ⟨p,0,none⟩))/\w'.cell? ⟨bt,0,none⟩=some (.string text)) 8 (by kernel_rfl) ?_;have hS:(fun w':World=>w'.cell? ⟨bp,0,none⟩=some (.pointer (some ⟨p,0,none⟩))/\w'.cell? ⟨bt,0,none⟩=some (.string text)) U.drew:=⟨qp,qt⟩;iterate 5(refine tkn (v:=?_) rfl (by kernel_rfl) (fun _ _ _ h=>h) ⟨rfl,fun w hSw=>?_⟩ hS ?_;rotate_left;(focus((try dsimp only at hSw);go_simp;(try with_reducible rfl)));(try simp only[Qt,Qs,Qr,Act.put,Qq,Qu,Qv]))
 refine fh (i:=5) (j:=7) (by kernel_rfl) rfl rfl (fun K hK=>?ga) (fun K hK=>?gb)
 case' ga=>
  go_simp;have hS1:(fun w':World=>w'.cell? ⟨bp,0,none⟩=some (.pointer (some ⟨p,0,none⟩))/\w'.cell? ⟨bt,0,none⟩=some (.string text)) ((U.alloc (.cells (zs N) 148)).drew):=⟨aI qp _,aI qt _⟩;refine hK.out _ _ (.inr hS1) ?_;clear hK K;refine tk1 6 (v:=?_) rfl (by kernel_rfl) (fun _ _ _ h=>h) ⟨rfl,fun w hSw=>?_⟩ hS1 ?_;rotate_left;· ((try dsimp only at hSw);go_simp;(try with_reducible rfl))
  (try simp only[Qt,Qs,Qr,Act.put,Qq,Qu,Qv])
  refine ai (i:=7) (by kernel_rfl) rfl (fun K hK=>?_);go_simp;refine hK.out _ _ (.inr ⟨aI (w:=U.alloc (.cells (zs N) 148)) hS1.1 _,aI (w:=U.alloc (.cells (zs N) 148)) hS1.2 _⟩) ?_;clear hK K;refine ai (i:=8) (by kernel_rfl) rfl (fun K hK=>?_);rw[QB (by rfl)];refine wp_store_mid 159 (.tmp 5) (.tmp 28) rfl (U.heap.size+1) 0 (iH p text U.heap.size N).toArray rfl rfl ?hth Tryz.Mr (all_oneCell_toArray (lA p text U.heap.size N)) ?_
  case hth=>(have:=Ps (U.alloc (.cells (zs N) 148));simpa using this)
  refine hK.out _ _ (.inl rfl) ?_;clear hK K;refine ax (by kernel_rfl) ?_ _;refine NoPanic.normal ?_;simp only[Qt,Qs,Qr,Act.put];have fs:Fg [] U ((((U.alloc (.cells (zs N) 148)).alloc (.cells z28 159)).drew).setCells (U.heap.size+1) 0 (iH p text U.heap.size N).toArray.toList) (U.heap.size+1) p (U.heap.size) N 0 text [] (.slice none 0 0) (.slice none 0 0) (.slice none 0 0) mc0:=by
   refine DX ((Kp.alloc _ _ _).trans ((Kp.alloc _ _ _).trans (Kp.drew _ _))) (by omega) (by omega) (by omega) ?_ ?_ ?_ ?_ (fun e he=>by cases he)
   .have:=Ps (U.alloc (.cells (zs N) 148));simpa using this
   .intro i;simp
   .simp;omega
   .exact fun i hi=>⟨by have:=eC U (zs N) 148 i _ (ru N i hi);rw[QH] at this;exact aI this _,(nP (by have:=eC U (zs N) 148 i _ (ru N i hi);rwa [QH] at this) (by simp) _)⟩
  generalize (((U.alloc (.cells (zs N) 148)).alloc (.cells z28 159)).drew).setCells (U.heap.size+1) 0 (iH p text U.heap.size N).toArray.toList=W at *;have hflo:w.heap.size<=U.heap.size+1:=by have:=hz.out;omega
  clear hS hS1;have hUz:Hid (U.heap.size=w.heap.size):=hz;obtain⟨f,hfe⟩:∃f,f=U.heap.size+1:=⟨_,rfl⟩;obtain⟨sb,hsbe⟩:∃sb,sb=U.heap.size:=⟨_,rfl⟩;rw[<-hfe,<-hsbe] at fs
 case' gb=>
  go_simp;have hS1:(fun w':World=>w'.cell? ⟨bp,0,none⟩=some (.pointer (some ⟨p,0,none⟩))/\w'.cell? ⟨bt,0,none⟩=some (.string text)) ((U.alloc (.cells z28 159)).drew):=⟨aI qp _,aI qt _⟩;refine hK.out _ _ (.inr hS1) ?_;clear hK K;refine ai (i:=5) (by kernel_rfl) rfl (fun K hK=>?_);go_simp;have hS2:(fun w':World=>w'.cell? ⟨bp,0,none⟩=some (.pointer (some ⟨p,0,none⟩))/\w'.cell? ⟨bt,0,none⟩=some (.string text)) (((U.alloc (.cells z28 159)).alloc (.cells (zs N) 148)).drew):=⟨aI (w:=U.alloc (.cells z28 159)) hS1.1 _,aI (w:=U.alloc (.cells z28 159)) hS1.2 _⟩;refine hK.out _ _ (.inr hS2) ?_;clear hK K;refine tk1 6 (v:=?_) rfl (by kernel_rfl) (fun _ _ _ h=>h) ⟨rfl,fun w hSw=>?_⟩ hS2 ?_;rotate_left;· ((try dsimp only at hSw);go_simp;(try with_reducible rfl))
  (try simp only[Qt,Qs,Qr,Act.put,Qq,Qu,Qv])
  refine ai (i:=8) (by kernel_rfl) rfl (fun K hK=>?_);rw[QB (by rfl)];refine wp_store_mid 159 (.tmp 5) (.tmp 28) rfl U.heap.size 0 (iH p text (U.heap.size+1) N).toArray rfl rfl ?hth Tryz.Mr (all_oneCell_toArray (lA p text (U.heap.size+1) N)) ?_
  case hth=>exact oI (Ps U) _
  refine hK.out _ _ (.inl rfl) ?_;clear hK K;refine ax (by kernel_rfl) ?_ _;refine NoPanic.normal ?_;simp only[Qt,Qs,Qr,Act.put];have hsB:(U.alloc (.cells z28 159)).heap.size=U.heap.size+1:=by simp
  have fs:Fg [] U ((((U.alloc (.cells z28 159)).alloc (.cells (zs N) 148)).drew).setCells U.heap.size 0 (iH p text (U.heap.size+1) N).toArray.toList) (U.heap.size) p (U.heap.size+1) N 0 text [] (.slice none 0 0) (.slice none 0 0) (.slice none 0 0) mc0:=by
   refine DX ((Kp.alloc _ _ _).trans ((Kp.alloc _ _ _).trans (Kp.drew _ _))) (by omega) (by omega) (by omega) ?_ ?_ ?_ ?_ (fun e he=>by cases he)
   .exact oI (Ps U) _
   .intro i;simp
   .simp
   .exact fun i hi=>⟨by have:=eC (U.alloc (.cells z28 159)) (zs N) 148 i _ (ru N i hi);rw[QH,hsB] at this;exact this,by show((U.alloc (.cells z28 159)).alloc (.cells (zs N) 148)).frozen? _=false;have:=fun j=>(show((U.alloc (.cells z28 159)).alloc (.cells (zs N) 148)).frozen? ⟨(U.alloc (.cells z28 159)).heap.size,j,none⟩=false by simp);rw[hsB] at this;exact this i⟩
  generalize (((U.alloc (.cells z28 159)).alloc (.cells (zs N) 148)).drew).setCells U.heap.size 0 (iH p text (U.heap.size+1) N).toArray.toList=W at *;have hflo:w.heap.size<=U.heap.size:=by have:=hz.out;omega
  clear hS hS1 hS2 hsB;have hUz:Hid (U.heap.size=w.heap.size):=hz;obtain⟨f,hfe⟩:∃f,f=U.heap.size:=⟨_,rfl⟩;obtain⟨sb,hsbe⟩:∃sb,sb=U.heap.size+1:=⟨_,rfl⟩;rw[<-hsbe,<-hfe] at fs
 all_goals
  rw[<-hfe] at hflo ⊢;clear hfe hsbe;have FS:=hid fs;clear fs hmk wN wM hsum hdiv;refine HK1.out _ _ ?_;clear HK1 K1;obtain⟨G2,hG2⟩:∃G2:Nat,(2:Int)*(G:Int)=(G2:Int):=⟨2*G,by push_cast;rfl⟩;obtain⟨mm,hm⟩:∃mm:Nat,(2:Int)+(G2:Int)=(mm:Int):=⟨2+G2,by push_cast;rfl⟩;have wg:=aa G2 (by omega);have wm:=aa mm (by omega);have hm20:mm<=20:=by omega
  have HMM:Hid (2+2*G=mm):=hid (by omega);have hsl:∀V:World,(Instr.sliceAt 157 (.pointer (some ⟨f,8,none⟩)) none (some (.int .i64 (mm:Int))) none).run Tryz.prog V=.ok (.slice (some ⟨f,8,none⟩) mm 20) V:=fun V=>lZ V f mm hm20;have BD0:Hid (Bd 0 [] W):=hid (HKEEP.out 0 [] w W H0.out (fun j hj=>(kq.trans FS.out.kp).block j hj (by simp)) (fun e he=>by cases he) (kq.trans FS.out.kp).os (kq.trans FS.out.kp).tape (kq.trans FS.out.kp).output);have HU:Hid (Cd U p g c n D cd/\U.cell? ⟨p,1,none⟩=some (.int .i64 bg)/\U.cell? ⟨p,2,none⟩=some (.int .i64 G)):=hid ⟨HCD.out.aj kq,(kq.cell (p:=⟨p,1,none⟩) HCD.out.hp (by simp)).trans P1.out,(kq.cell (p:=⟨p,2,none⟩) HCD.out.hp (by simp)).trans P2.out⟩;have QT:=hid (And.intro qp qt);clear qp qt;obtain⟨M,hM⟩:∃M,M=(text.size+1)*(n*(D+1)):=⟨_,rfl⟩;have HMN:Hid (0+M<=64*N):=hid (by rw[hM,<-HQ.out.1,QH];exact hN2.out);have HM:=hid hM;clear hM;refine(wpIn_wide (n:=3)).1 ?_
  gi_wp2
  gi_loopw [6] (fun v wr=>∃(fr i:Nat) (Z:List (Nat×Obj)) (wb:World) (s:Mc) (pl:Nat) (u3 u4 u5:Value),v=.int .i64 fr/\fr<=text.size+1/\i<=bs.length/\Hid (Fg Z wb wr f p sb N pl text [] u3 u4 u5 s)/\Hid (s.left=[]/\s.ahead=[])/\Hid (wb.heap.size=w.heap.size)/\Hid (Cd wb p g c n D cd/\wb.cell? ⟨p,1,none⟩=some (.int .i64 bg)/\wb.cell? ⟨p,2,none⟩=some (.int .i64 G))/\Hid (wb.cell? ⟨bp,0,none⟩=some (.pointer (some ⟨p,0,none⟩))/\wb.cell? ⟨bt,0,none⟩=some (.string text))/\Hid (Bd i Z wr)/\Hid (ItsG cd n D text bg (bs.drop i) fr s)/\Hid (∀e∈Z,w.heap.size<=e.1)) (fun _ wr=>LU wr sb 0 M)
  case atStart=>exact⟨0,0,[],U,mc0,0,_,_,_,rfl,by omega,by omega,FS,hid ⟨rfl,rfl⟩,hUz,HU,QT,BD0,HI,hid (fun e he=>by cases he)⟩
  case round=>
   clear FS BD0 HU QT HI;obtain⟨fr,i,Z,wb,s,pl,u3,u4,u5,rfl,hfr,hib,FS,HL,HB,HCW,HCE,HBD,HIT,HZL⟩:=hrel
   gi_wp2_with fail
   refine⟨trivial,?_⟩;refine(callsIn_wide.2 (na (fr:=fr) FS.out HL.out.1 HL.out.2 HCW.out.1 HCW.out.2.1 hbg (by rw[<-HQ.out.1];exact hn) (by rw[<-HQ.out.1];exact hN2.out) hNb htx hfr)).mono ?_;rintro e W1 ⟨s',pl',x3,x4,x5,rfl,fg,hl1,ha1,runs⟩;have FG:=hid fg;have RU:=hid runs;have HLA:=hid (And.intro hl1 ha1);have b0:=(fg.kp.cell (p:=⟨bp,0,none⟩) (World.block_lt_of_cell? _ _ HCE.out.1) (by simp)).trans HCE.out.1;have b2:=(fg.kp.cell (p:=⟨p,2,none⟩) HCW.out.1.hp (by simp)).trans HCW.out.2.2;have BD1:Hid (Bd i Z W1):=hid (HKEEP.out i Z _ W1 HBD.out (fun j hj=>(fg.kp.block j (by rw[HB.out];exact hj) (by simp)).trans (FS.out.kp.block j (by rw[HB.out];exact hj) (by simp)).symm) (fun e he=>(fg.fx e he).1) (fg.kp.os.trans FS.out.kp.os.symm) (fg.kp.tape.trans FS.out.kp.tape.symm) (fg.kp.output.trans FS.out.kp.output.symm));clear runs fg hl1 ha1;obtain⟨fdv,hfdv⟩:∃b,s'.fd=b:=⟨_,rfl⟩;rw[hfdv]
   have hit:=HIT.out
   cases fdv with
   | false=>
    have HE:Hid (i=bs.length):=hid (by
     by_cases q:i<bs.length
     .rw[QW q] at hit;have:=(hit s' RU.out).1;rw[hfdv] at this
      cases this
     .omega)
    clear hit
    gi_wp2
    go_end0;exact⟨⟨_,rfl⟩,.inl ⟨Z,by rw[<-HE.out];exact BD1.out⟩⟩
   | true=>
    by_cases q:i<bs.length
    case neg=>
     rw[RP (by omega)] at hit;have:=hit s' RU.out;rw[hfdv] at this
     cases this
    rw[QW q] at hit;obtain⟨_,hbest,fr',hb1,hun,hle,hits⟩:=hit s' RU.out;have HUN:Hid (uns s'.sn 0 M<uns s.sn 0 M):=hid (by rw[HM.out];exact hun);clear hun;obtain⟨fn,tmps,assign,body,hy,hR⟩:=HY.out W1 f 2 i bs[i] Z (QA q) BD1.out (by rw[<-hbest];exact FG.out.fc) hflo (fun e he=>(FG.out.fx e he).2.1);rw[HMM.out] at hy;have HR:=hid hR;have HITS:=hid hits;have HB1:=hid (And.intro hbest hb1);clear hR hits hit hbest hb1
    gi_wp2
    refine HR.out.mono ?_;rintro e W2 ⟨S,Z2,kS,hS,hZ2,(⟨rfl,hB⟩|⟨rfl,hX⟩)⟩
    .have hS':∀T∈S,T<wb.heap.size\/∃o,(T,o)∈Z:=fun T hT=>by
      rcases hS T hT with r|r
      .exact .inl (by rw[HB.out];exact(HCV.out T r).1)
      .exact .inr r
     have fg2:=FG.out.IU kS hS' hZ2;have nin:∀x,x<w.heap.size->x∉CV->x∉S:=fun x hx hn m=>by
      rcases hS x m with r|⟨o,r⟩
      .exact hn r
      .have:=HZL.out _ r;simp at this;omega
     have bk:∀x,x<w.heap.size->x∉CV->(Kr W2 wb.heap.size).heap[x]? = wb.heap[x]?:=fun x hx hn=>
      (D5 (QC FG.out.kp.size kS.size) (by rw[HB.out];exact hx)).trans ((kS.block x (Qx (by rw[HB.out];exact hx) FG.out.kp.size) (nin x hx hn)).trans (FG.out.kp.block x (by rw[HB.out];exact hx) (by simp)))
     have hpl:p<w.heap.size:=by rw[<-HB.out];exact HCW.out.1.hp
     have hgl:g<w.heap.size:=by rw[<-HB.out];exact HCW.out.1.hg
     have hbpl:bp<w.heap.size:=by rw[<-HB.out];exact World.block_lt_of_cell? _ _ HCE.out.1
     have hbtl:bt<w.heap.size:=by rw[<-HB.out];exact World.block_lt_of_cell? _ _ HCE.out.2
     have bkp:=bk p hpl (fun m=>(HCV.out p m).2.1 rfl);have bkg:=bk g hgl (fun m=>(HCV.out g m).2.2.1 rfl);have bkt:=bk bt hbtl (fun m=>(HCV.out bt m).2.2.2.1 rfl);have bkb:=bk bp hbpl (fun m=>(HCV.out bp m).2.2.2.2 rfl);have HC2:Hid (Cd (Kr W2 wb.heap.size) p g c n D cd/\(Kr W2 wb.heap.size).cell? ⟨p,1,none⟩=some (.int .i64 bg)/\(Kr W2 wb.heap.size).cell? ⟨p,2,none⟩=some (.int .i64 G)):=hid ⟨HCW.out.1.blocks bkp bkg,(World.cell?_of_block bkp).trans HCW.out.2.1,(World.cell?_of_block bkp).trans HCW.out.2.2⟩;have HE2:Hid ((Kr W2 wb.heap.size).cell? ⟨bp,0,none⟩=some (.pointer (some ⟨p,0,none⟩))/\(Kr W2 wb.heap.size).cell? ⟨bt,0,none⟩=some (.string text)):=hid ⟨(World.cell?_of_block bkb).trans HCE.out.1,(World.cell?_of_block bkt).trans HCE.out.2⟩
     have HZ2:Hid (∀e∈Z2,w.heap.size<=e.1):=hid (fun e he=>by
      rcases(hZ2 e he).2 with⟨o,r⟩|r
      .exact HZL.out (e.1,o) r
      .have:=FG.out.kp.size;rw[HB.out] at this
       omega)
     have c9:W2.cell? ⟨f,8+1,none⟩=some (.int .i64 (fr':Int)):=by
      have:=fg2.fc 1 _ rfl;rw[this]
      congr 2
      rw[HB1.out.1];exact HB1.out.2
     have c9':W2.cell? ⟨f,9,none⟩=some (.int .i64 (fr':Int)):=c9;have F2:=hid fg2;have HSZ:Hid ((Kr W2 wb.heap.size).heap.size=w.heap.size):=hid ((lC (QC FG.out.kp.size kS.size)).trans HB.out);have HBB:=hid hB;clear bk nin fg2 hS hS' hZ2 bkp bkg bkt bkb kS hB
     gi_wp2
     go_round
     case rel=>exact⟨fr',i+1,Z2,_,s',pl',x3,x4,x5,rfl,hle,by omega,F2,HLA,HSZ,HC2,HE2,HBB,HITS,HZ2⟩
     case measure=>rw[F2.out.uns 0 M HMN.out,FS.out.uns 0 M HMN.out];exact HUN.out
    .gi_wp2
     refine bodyPost_ret (results_none rfl _ _ _) rfl ?_;exact⟨⟨_,rfl⟩,.inr hX⟩
end Go.Proofs.YtiahkfoojjpaaaaGreatDoor
namespace Go.Proofs.YtiahkfoojjpaaaaGreatDoor
open Go.RowKit
theorem jQ(x:ByteArray):∀(l:List (ByteArray×Nat)) (c i:Nat),l.any (fun q=>x==q.1)=false->Instr.findNow .string (.string x) (lY c l) i=some none
 | [],_,_,_=>rfl
 | (y,m)::l,c,i,h=>by
  simp only[List.any_cons,Ru] at h;have hxy:(x==y)=false:=h.1;rw[lY];simpa[Instr.findNow,Instr.sameNow,hxy] using jQ x l (c+1) (i+1) h.2
theorem iL(x:ByteArray):∀(l:List (ByteArray×Nat)) (c i:Nat) (y:ByteArray) (n:Nat),l.find? (fun q=>x==q.1)=some (y,n)->∃j,Instr.findNow .string (.string x) (lY c l) i=some (some (j,.int .i64 (n:Nat)))
 | [],_,_,_,_,h=>by cases h
 | (z,m)::l,c,i,y,n,h=>by
  rw[lY];rw[Sa] at h
  cases hxy:(x==z)
  .rw[hxy] at h;obtain⟨j,q⟩:=iL x l (c+1) (i+1) y n h;exact⟨j,by simpa[Instr.findNow,Instr.sameNow,hxy] using q⟩
  .rw[hxy] at h;injection h with h;injection h with h1 h2;subst h2;exact⟨i,by simp[Instr.findNow,Instr.sameNow,hxy]⟩
theorem Lt(x:ByteArray):∀(l:List ByteArray) (k:Nat),(l.zipIdx k).any (fun q=>x==q.1)=(l.findIdx? (x == ·)).isSome
 | [],_=>rfl
 | y::l,k=>by
  rw[SS,List.any_cons,Lt x l (k+1),List.findIdx?_cons]
  cases(x==y)
  .simp
  .simp
theorem xh(x:ByteArray):∀(l:List ByteArray) (k i:Nat),l.findIdx? (x == ·)=some i->∃y,(l.zipIdx k).find? (fun q=>x==q.1)=some (y,k+i)
 | [],_,_,h=>by cases h
 | y::l,k,i,h=>by
  rw[List.findIdx?_cons] at h;rw[SS,Sa]
  cases hxy:(x==y)
  .rw[hxy] at h;simp only[Sq,if_false,Option.map_eq_some_iff] at h;obtain⟨j,hj,rfl⟩:=h;obtain⟨z,hz⟩:=xh x l (k+1) j hj;refine⟨z,?_⟩;rw[show k+(j+1)=k+1+j by omega];exact hz
  .rw[hxy] at h;simp at h;subst h;exact⟨y,rfl⟩
structure NmR(σ:Sst)(l:List ByteArray):Prop where
 ns:σ.ns=l
 nm:σ.nm=l.zipIdx
def NmTo(σ σ':Sst)(l':List ByteArray):Prop:=NmR σ' l'/\∃v,σ'={ σ with nm:=σ'.nm,vn:=v,ns:=σ'.ns}
def FlC(cv:List Value)(c:aH):List Value:=((((cv.set 6 (.string c.name)).set 7 (.int .i64 c.file)).set 16 (.bool c.all)).set 17 (.int .i64 c.number)).set 18 (.bool c.print)
section
variable {cv:List Value}{c:aH}
theorem FlC.len(hl:Cv cv):Cv (FlC cv c):=((((hl.set 6 rfl).set 7 rfl).set 16 rfl).set 17 rfl).set 18 rfl
theorem FlC.c16(hl:Cv cv):(FlC cv c)[16]? = some (.bool c.all):=by
 obtain⟨x0,x1,x2,x3,x4,x5,x6,x7,x8,x9,x10,x11,x12,x13,x14,x15,x16,x17,x18,x19,x20,x21,x22,rfl⟩:=eD hl.len
 rfl
theorem FlC.c17(hl:Cv cv):(FlC cv c)[17]? = some (.int .i64 c.number):=by
 obtain⟨x0,x1,x2,x3,x4,x5,x6,x7,x8,x9,x10,x11,x12,x13,x14,x15,x16,x17,x18,x19,x20,x21,x22,rfl⟩:=eD hl.len
 rfl
theorem FlC.c18(hl:Cv cv):(FlC cv c)[18]? = some (.bool c.print):=by
 obtain⟨x0,x1,x2,x3,x4,x5,x6,x7,x8,x9,x10,x11,x12,x13,x14,x15,x16,x17,x18,x19,x20,x21,x22,rfl⟩:=eD hl.len
 rfl
theorem FlC.all(hl:Cv cv):(FlC cv c).set 16 (.bool true)=FlC cv { c with all:=true}:=by
 obtain⟨x0,x1,x2,x3,x4,x5,x6,x7,x8,x9,x10,x11,x12,x13,x14,x15,x16,x17,x18,x19,x20,x21,x22,rfl⟩:=eD hl.len
 rfl
theorem FlC.print(hl:Cv cv):(FlC cv c).set 18 (.bool true)=FlC cv { c with print:=true}:=by
 obtain⟨x0,x1,x2,x3,x4,x5,x6,x7,x8,x9,x10,x11,x12,x13,x14,x15,x16,x17,x18,x19,x20,x21,x22,rfl⟩:=eD hl.len
 rfl
theorem FlC.number(hl:Cv cv)(n:Nat):(FlC cv c).set 17 (.int .i64 n)=FlC cv { c with number:=n}:=by
 obtain⟨x0,x1,x2,x3,x4,x5,x6,x7,x8,x9,x10,x11,x12,x13,x14,x15,x16,x17,x18,x19,x20,x21,x22,rfl⟩:=eD hl.len
 rfl
theorem FlC.file(hl:Cv cv)(x:ByteArray)(n:Nat):((FlC cv c).set 6 (.string x)).set 7 (.int .i64 n)=FlC cv { c with name:=x,file:=n}:=by
 obtain⟨x0,x1,x2,x3,x4,x5,x6,x7,x8,x9,x10,x11,x12,x13,x14,x15,x16,x17,x18,x19,x20,x21,x22,rfl⟩:=eD hl.len
 rfl
end
section
variable {w0 w:World}{b cb k:Nat}{src:ByteArray}{σ:Sst}{cv:List Value}{c:aH}{r:RdS}
def FileO(w0:World)(b cb:Nat)(src:ByteArray)(σ:Sst)(cv:List Value)(q:Nat×RdS×aH)(w':World):Prop:=
 ∃σ',Sr w0 w' b src q.1 σ'/\Bl w' cb (FlC cv q.2.2)/\Sr.Far w0 b σ' cb/\NmTo σ σ' q.2.1.names
theorem Qb(hs:Sr w0 w b src k σ)(hb:Bl w cb (FlC cv c))(hl:Cv cv)(hf:Sr.Far w0 b σ cb)(hsl:Small σ 2000)(hn:NmR σ r.names):Calls Tryz.prog 100 #[.pointer (some ⟨b,0,none⟩),.pointer (some ⟨cb,0,none⟩)] w (OpO (gQ src k r c) w0 (FileO w0 b cb src σ cv)):=by
 unfold gQ dT;have hle:=dm hs.cur.le
 cases h:wdE src (blk src k) (src.size+1) (blk src k) with
 | error pl=>
  have H:=hid (tZ (by omega) hle h);go_enter Tryz.func100,Tryz.ntmps100
  go_wp2_with fail;refine(Hj hs.e H.out).mono ?_;rintro q w1 ⟨rfl,m1⟩;go_wp2_with fail;exact⟨rfl,rfl,hs.tw m1⟩
 | ok e=>
  dsimp only;refine(file_c hs hb (FlC.len hl) hf hsl (xY h) rfl).mono ?_;rintro q w1 ⟨σ',cv',rfl,s1,b1,l1,f1,hnam⟩;rcases hnam with⟨hno,v,hσ,rfl⟩|⟨j,n,hyes,hσ,rfl⟩
  .cases hi:r.names.findIdx? (src.extract (blk src k) e == ·) with
   | none=>
    refine⟨rfl,σ',s1,?_,f1,⟨?_,?_⟩,⟨v,?_⟩⟩
    .rw[FlC.file hl] at b1;rw[hn.ns] at b1;exact b1
    .rw[hσ];show σ.ns++_=_;rw[hn.ns]
    .rw[hσ];show σ.nm++[(_,σ.ns.length)]=_;rw[hn.nm,hn.ns,List.zipIdx_append];simp
    .rw[hσ]
   | some i=>
    obtain⟨y,hy⟩:=xh _ _ 0 i hi;obtain⟨j,hj⟩:=iL _ _ 0 0 y (0+i) hy;rw[hn.nm,hj] at hno
    cases hno
  .cases hi:r.names.findIdx? (src.extract (blk src k) e == ·) with
   | none=>
    have hj:=jQ (src.extract (blk src k) e) r.names.zipIdx 0 0 (by rw[Lt,hi];rfl);rw[hn.nm,hj] at hyes
    cases hyes
   | some i=>
    obtain⟨y,hy⟩:=xh _ _ 0 i hi;obtain⟨j',hj⟩:=iL _ _ 0 0 y (0+i) hy;rw[hn.nm,hj] at hyes;have e1:n=i:=by
     injection hyes with hyes;injection hyes with hyes;injection hyes with _ hyes;injection hyes with _ hyes;omega
    subst e1 hσ;refine⟨rfl,σ',s1,?_,f1,⟨hn.ns,hn.nm⟩,⟨σ'.vn,rfl⟩⟩;rw[FlC.file hl] at b1;exact b1
theorem flags_o(hs:Sr w0 w b src k σ)(hb:Bl w cb (FlC cv c))(hl:Cv cv)(hf:Sr.Far w0 b σ cb)(hsl:Small σ 2000)(hn:NmR σ r.names)(hcn:c.number<=1000000):Calls Tryz.prog 142 #[.pointer (some ⟨b,0,none⟩),.pointer (some ⟨cb,0,none⟩)] w (OpO (aP src (src.size+1) k r c) w0 (FileO w0 b cb src σ cv)):=by
 obtain⟨R,hR⟩:∃R,R=aP src (src.size+1) k r c:=⟨_,rfl⟩;rw[<-hR];have HRE:=hid hR;clear hR;have hsm:=hs.cur.small;have hne:cb≠b:=fun e=>hf.bk 0 (by rw[e];rfl);have HF:=hid hf;have HL:=hid hl;have HS:=hid hs;have HB:=hid hb;have HX:=hid (And.intro hsl hn);have hksz:=hs.cur.le;clear hl hf hs hb hsl hn;go_enter Tryz.func142,Tryz.ntmps142
 go_wp2_with fail;go_loopw [4] (fun _ wr=>∃(a j:Nat) (d:aH),a<=src.size/\src.size+1<=a+j/\d.number<=1000000/\Hid (Sr w0 wr b src a σ)/\Hid (Bl wr cb (FlC cv d))/\Hid (R=aP src j a r d)) (fun _ wr=>3000-jc wr b)
 case atStart=>exact⟨k,src.size+1,c,hksz,by omega,hcn,HS,HB,HRE⟩
 case round=>
  clear HS HB HRE;obtain⟨a,j,d,hal,haj,hdn,HS,HB,HN⟩:=hrel;have HAT:=hid (aE HS.out.cur)
  match j,HN,haj with
  | 0,_,haj=>omega
  | j+1,HN,haj=>
  have hN:=HN.out;unfold aP at hN;clear HN;obtain⟨g,hg⟩:∃g,d.all=g:=⟨_,rfl⟩;obtain⟨p,hp⟩:∃p,d.print=p:=⟨_,rfl⟩;obtain⟨n,hnn⟩:∃n,d.number=n:=⟨_,rfl⟩;have q16:=HB.out.at_ 16 _ (FlC.c16 HL.out);have q17:=HB.out.at_ 17 _ (FlC.c17 HL.out);have q18:=HB.out.at_ 18 _ (FlC.c18 HL.out);rw[hg] at q16;rw[hnn] at q17;rw[hp] at q18;obtain⟨t1,ht1⟩:∃t1,t1=(!g&&saw src a 103):=⟨_,rfl⟩;go_upto_region 0 with fail
  go_cut [4] from 5 (fun v wx=>∃wz,wz=wx/\v=.bool t1/\Hid (Sr w0 wz b src (if t1=true then a+1 else a) σ)/\Hid (Bl wz cb (FlC cv d)))
  case first=>
   cases g
   .have ht:saw src a 103=t1:=by rw[ht1];rfl
    have HT:=hid (df 103 HS.out.cur ht);clear ht ht1 hN;go_wp2_with fail;refine HT.out.mono ?_;rintro q w1 ⟨rfl,h1,m1⟩;have S1:=hid (HS.out.move m1 h1);have B1:=hid (HB.out.aj m1.kp (by simpa using hne));go_wp2_with fail;go_meet
    case rel=>exact⟨_,rfl,rfl,S1,B1⟩
   .have ht:t1=false:=by rw[ht1];rfl
    subst ht;clear ht1 hN;go_wp2_with fail;go_meet
    case rel=>exact⟨_,rfl,rfl,HS,HB⟩
  case rest=>
  obtain⟨wa,hwa,rfl,SA,BA⟩:=hcut;subst hwa;clear HS HB q16 q17 q18
  cases t1
  case true=>
   have hgs:g=false/\saw src a 103=true:=by
    cases g
    .exact⟨rfl,by rw[Bool.not_false,Se] at ht1;exact ht1.symm⟩
    .cases ht1
   rw[QB ⟨hg.trans hgs.1,hgs.2⟩] at hN;have hlt:=aC hgs.2;have HN:=hid hN;clear hN ht1 hgs hg hp hnn;have S1:Hid (Sr w0 wa b src (a+1) σ):=SA;have q16:=BA.out.at_ 16 _ (FlC.c16 HL.out);have f16:=BA.out.free 16;clear SA;go_wp2_with fail;have k9:Kp [cb] wa (wa.setCell ⟨cb,16,none⟩ (.bool true)):=Kp.setCell _ _ (by simp);have S9:=hid (S1.out.other k9 (fun y hy=>by simp at hy;rw[hy];exact HF.out))
   have B9:Hid (Bl (wa.setCell ⟨cb,16,none⟩ (.bool true)) cb (FlC cv { d with all:=true})):=hid (by
    have:=BA.out.set 16 (.bool true) (by rw[(FlC.len HL.out).len];omega)
    rwa [FlC.all HL.out] at this)
   have HCA:=hid (aE S9.out.cur);go_round
   case rel=>exact⟨a+1,j,{ d with all:=true},by omega,by omega,by show d.number<=_;omega,S9,B9,HN⟩
   case measure=>rw[HCA.out,HAT.out];omega
  case false=>
  rw[Qw (fun q=>by rw[<-hg,q.1,q.2] at ht1;cases ht1)] at hN;have S1:Hid (Sr w0 wa b src a σ):=SA;clear SA ht1;have q18:=BA.out.at_ 18 _ (FlC.c18 HL.out);rw[hp] at q18;obtain⟨t2,ht2⟩:∃t2,t2=(!p&&saw src a 112):=⟨_,rfl⟩;go_upto_region 2 with fail
  go_cut [21] from 22 (fun v wx=>∃wz,wz=wx/\v=.bool t2/\Hid (Sr w0 wz b src (if t2=true then a+1 else a) σ)/\Hid (Bl wz cb (FlC cv d)))
  case first=>
   cases p
   .have ht:saw src a 112=t2:=by rw[ht2];rfl
    have HT:=hid (df 112 S1.out.cur ht);clear ht ht2 hN;go_wp2_with fail;refine HT.out.mono ?_;rintro q w1 ⟨rfl,h1,m1⟩;have S2:=hid (S1.out.move m1 h1);have B2:=hid (BA.out.aj m1.kp (by simpa using hne));go_wp2_with fail;go_meet
    case rel=>exact⟨_,rfl,rfl,S2,B2⟩
   .have ht:t2=false:=by rw[ht2];rfl
    subst ht;clear ht2 hN;go_wp2_with fail;go_meet
    case rel=>exact⟨_,rfl,rfl,S1,BA⟩
  case rest=>
  obtain⟨wc,hwc,rfl,SC,BC⟩:=hcut;subst hwc;clear S1 BA q18
  cases t2
  case true=>
   have hgs:p=false/\saw src a 112=true:=by
    cases p
    .exact⟨rfl,by rw[Bool.not_false,Se] at ht2;exact ht2.symm⟩
    .cases ht2
   rw[QB ⟨hp.trans hgs.1,hgs.2⟩] at hN;have hlt:=aC hgs.2;have HN:=hid hN;clear hN ht2 hgs hg hp hnn;have S1:Hid (Sr w0 wc b src (a+1) σ):=SC;have q18:=BC.out.at_ 18 _ (FlC.c18 HL.out);have f18:=BC.out.free 18;clear SC;go_wp2_with fail;have k9:Kp [cb] wc (wc.setCell ⟨cb,18,none⟩ (.bool true)):=Kp.setCell _ _ (by simp);have S9:=hid (S1.out.other k9 (fun y hy=>by simp at hy;rw[hy];exact HF.out))
   have B9:Hid (Bl (wc.setCell ⟨cb,18,none⟩ (.bool true)) cb (FlC cv { d with print:=true})):=hid (by
    have:=BC.out.set 18 (.bool true) (by rw[(FlC.len HL.out).len];omega)
    rwa [FlC.print HL.out] at this)
   have HCA:=hid (aE S9.out.cur);go_round
   case rel=>exact⟨a+1,j,{ d with print:=true},by omega,by omega,by show d.number<=_;omega,S9,B9,HN⟩
   case measure=>rw[HCA.out,HAT.out];omega
  case false=>
  rw[Qw (fun q=>by rw[<-hp,q.1,q.2] at ht2;cases ht2)] at hN;have S1:Hid (Sr w0 wc b src a σ):=SC;clear SC ht2;have q17:=BC.out.at_ 17 _ (FlC.c17 HL.out);rw[hnn] at q17;obtain⟨t3,ht3⟩:∃t3,t3=((n==0)&&isD src a):=⟨_,rfl⟩;go_upto_region 4 with fail
  go_cut [38] from 39 (fun v wx=>∃wz,wz=wx/\v=.bool t3/\Hid (Sr w0 wz b src a σ)/\Hid (Bl wz cb (FlC cv d)))
  case first=>
   by_cases hn0:n=0
   .have ht:isD src a=t3:=by rw[ht3,hn0];rfl
    have HT:=hid (dG S1.out.cur ht);have hz:((n:Int)==0)=true:=by rw[hn0];rfl
    clear ht ht3 hN hn0;go_wp2_with fail;refine HT.out.mono ?_;rintro q w1 ⟨rfl,h1,m1⟩;have S2:=hid (S1.out.move m1 h1);have B2:=hid (BC.out.aj m1.kp (by simpa using hne));go_wp2_with fail;go_meet
    case rel=>exact⟨_,rfl,rfl,S2,B2⟩
   .have ht:t3=false:=by
     rw[ht3,show(n==0)=false by rw[Qz];exact hn0]
     rfl
    have hz:((n:Int)==0)=false:=by rw[Qz];omega
    subst ht;clear ht3 hN hn0;go_wp2_with fail;go_meet
    case rel=>exact⟨_,rfl,rfl,S1,BC⟩
  case rest=>
  obtain⟨we,hwe,rfl,SE,BE⟩:=hcut;subst hwe;clear S1 BC q17
  cases t3
  case true=>
   have hgs:n=0/\isD src a=true:=by
    cases hz:(n==0)
    .rw[hz] at ht3;cases ht3
    .rw[hz,Se] at ht3;exact⟨by simpa using hz,ht3.symm⟩
   rw[QB ⟨hnn.trans hgs.1,hgs.2⟩] at hN;have NS:=hid (num_s (lo:=1) (hi:=1000000) (by omega) SE.out.e)
   cases hnm:pZ src 1 1000000 a with
   | error pl=>
    rw[hnm] at hN NS;have HN:=hid hN;clear hN hnm ht3 hgs hg hp hnn;go_wp2_with fail;refine NS.out.mono ?_;rintro q w1 ⟨rfl,m1⟩;go_wp2_with fail;refine⟨rfl,?_⟩;rw[HN.out];exact⟨rfl,SE.out.tw m1⟩
   | ok q=>
    obtain⟨e1,x⟩:=q;rw[hnm] at hN NS;replace hN:R=aP src j e1 r { d with number:=x}:=hN;have hxe:=Bc (lo:=1) (hi:=1000000) hal (by omega) hnm;have hlt:=(hxe.2.2.2 (by omega) hgs.2).1;have HN:=hid hN;clear hN hnm ht3 hgs hg hp hnn;go_wp2_with fail;refine NS.out.mono ?_;rintro q w1 ⟨rfl,h1,m1⟩;have h1:Cur w1 b src e1:=h1;have S2:=hid (SE.out.move m1 h1);have B2:=hid (BE.out.aj m1.kp (by simpa using hne));have q17:=B2.out.at_ 17 _ (FlC.c17 HL.out);have f17:=B2.out.free 17;clear h1 m1;go_wp2_with fail;have k9:Kp [cb] w1 (w1.setCell ⟨cb,17,none⟩ (.int .i64 (x:Nat))):=Kp.setCell _ _ (by simp);have S9:=hid (S2.out.other k9 (fun y hy=>by simp at hy;rw[hy];exact HF.out))
    have B9:Hid (Bl (w1.setCell ⟨cb,17,none⟩ (.int .i64 (x:Nat))) cb (FlC cv { d with number:=x})):=hid (by
     have:=B2.out.set 17 (.int .i64 (x:Nat)) (by rw[(FlC.len HL.out).len];omega)
     rwa [FlC.number HL.out] at this)
    have HCA:=hid (aE S9.out.cur);go_round
    case rel=>exact⟨e1,j,{ d with number:=x},hxe.2.1,by omega,hxe.2.2.1,S9,B9,HN⟩
    case measure=>rw[HCA.out,HAT.out];omega
  case false=>
  rw[Qw (fun q=>by rw[<-hnn,q.1,q.2] at ht3;cases ht3)] at hN;clear ht3
  cases h119:saw src a 119
  case true=>
   rw[h119,QB rfl] at hN;have HN:=hid hN;have HT:=hid (df 119 SE.out.cur h119);clear hN h119 hg hp hnn;go_wp2_with fail;refine HT.out.mono ?_;rintro q w1 ⟨rfl,h1,m1⟩;have h1:Cur w1 b src (a+1):=h1;have S2:=hid (SE.out.move m1 h1);have B2:=hid (BE.out.aj m1.kp (by simpa using hne));clear h1 m1;go_wp2_with fail;refine(Qb (c:=d) (r:=r) S2.out B2.out HL.out HF.out HX.out.1 HX.out.2).mono ?_;rw[<-HN.out];intro q w2 hq;have HQ:=hid hq;clear hq
   cases hRR:R with
   | ok y=>
    rw[hRR] at HQ;obtain⟨rfl,hq⟩:=HQ.out;have HQ2:=hid hq;clear hq HQ;go_wp2_with fail;refine bodyPost_ret (results_none rfl _ _ _) rfl ?_;rw[hRR];exact⟨rfl,HQ2.out⟩
   | error y=>
    obtain⟨E,pl⟩:=y;rw[hRR] at HQ;obtain⟨rfl,hq⟩:=HQ.out;have HQ2:=hid hq;clear hq HQ;go_wp2_with fail;refine⟨rfl,?_⟩;rw[hRR];exact⟨rfl,HQ2.out⟩
  case false=>
   rw[h119,Qw (by simp)] at hN;have HN:=hid hN;have HT:=hid (df 119 SE.out.cur h119);clear hN h119 hg hp hnn;go_wp2_with fail;refine HT.out.mono ?_;rintro q w1 ⟨rfl,h1,m1⟩;have h1:Cur w1 b src a:=h1;have S2:=hid (SE.out.move m1 h1);have B2:=hid (BE.out.aj m1.kp (by simpa using hne));clear h1 m1;go_wp2_with fail;refine bodyPost_ret (results_none rfl _ _ _) rfl ?_;rw[HN.out];exact⟨rfl,σ,S2.out,B2.out,HF.out,⟨HX.out.2.ns,HX.out.2.nm⟩,⟨σ.vn,rfl⟩⟩
end
