/- What the claim needs of: VC VE VI. -/
import Derived.Test.YtiahkfoojjpaaaaGreatDoorW29
import Derived.Test.YtiahkfoojjpaaaaGreatDoorW32
set_option maxRecDepth 100000
set_option maxHeartbeats 16000000
set_option linter.unusedVariables false
set_option linter.unusedSimpArgs false
namespace Go.Proofs.YtiahkfoojjpaaaaGreatDoor
open Go.RowKit Go.Shelf
attribute [local go_sem] Oper.semAt_some
variable {Z:List (Nat×Obj)}
def ItsG (cd:Nat->In) (n D:Nat) (text:ByteArray) (bg:Nat):List (Nat->Int)->Nat->Mc->Prop
 | [],fr,s=>∀ s',Runs cd n D text bg (text.size+1 - fr) fr [] { s with fd:=false } s'->s'.fd=false
 | b::bs,fr,s=>∀ s',Runs cd n D text bg (text.size+1 - fr) fr [] { s with fd:=false } s'->s'.fd=true/\s'.eJ=b/\∃ fr':Nat,b 1=(fr':Int)/\uns s'.sn 0 ((text.size+1) * (n * (D+1))) < uns s.sn 0 ((text.size+1) * (n * (D+1)))/\fr'<=text.size+1/\ItsG cd n D text bg bs fr' s'
theorem Gm {w:World} {p g c n D bg G bt bp l:Nat} {text:ByteArray} {cd:Nat->In} {bs:List (Nat->Int)} {CV:List Nat} {Bd:Nat->List (Nat×Obj)->World->Prop} {X:World->Prop} (hcd:Cd w p g c n D cd) (p1:w.cell? ⟨p,1,none⟩=some (.int .i64 bg)) (p2:w.cell? ⟨p,2,none⟩=some (.int .i64 G)) (hbg:bg < n) (hn:n * (D+1)<=9000) (hG:G<=9) (htx:text.size<=5000)
  (hbt:w.cell? ⟨bt,0,none⟩=some (.string text)) (hbp:w.cell? ⟨bp,0,none⟩=some (.pointer (some ⟨p,0,none⟩)))
  (hCV:∀ T∈CV,T < w.heap.size/\T≠p/\T≠g/\T≠bt/\T≠bp) (hIts:ItsG cd n D text bg bs 0 mc0)
  (hkeep:∀ i Z W W',Bd i Z W->(∀ j,j < w.heap.size->W'.heap[j]? = W.heap[j]?)->(∀ e∈Z,W'.heap[e.1]? = some e.2)->W'.os=W.os->W'.tape=W.tape->W'.output=W.output->Bd i Z W') (h0:Bd 0 [] w)
  (hY:∀ (W1:World) (f m i:Nat) (b:Nat->Int) (Z:List (Nat×Obj)),bs[i]? = some b->Bd i Z W1->W1.rangeAt f 8 (nf b)->w.heap.size<=f->(∀ e∈Z,e.1≠f) ->
    YieldAt Fence.wide m Tryz.prog l #[.slice (some ⟨f,8,none⟩) (2+2 * G) 20] W1 fun e W'=>∃ S Z2,Kp S W1 W'/\(∀ T∈S,T∈CV\/∃ o,(T,o)∈Z)/\(∀ e∈Z2,W'.heap[e.1]? = some e.2/\((∃ o,(e.1,o)∈Z)\/W1.heap.size<=e.1))/\((e=.returned (.bool true)/\Bd (i+1) Z2 W')\/(e=.returned (.bool false)/\X W'))) :
  Calls Tryz.prog 89 #[.func (.yield l) #[] #[],.pointer (some ⟨bt,0,none⟩),.pointer (some ⟨bp,0,none⟩)] w fun e w'=>(∃ v,e=.returned v)/\((∃ Z,Bd bs.length Z w')\/X w'):=by
 have HKEEP:=hid hkeep;have H0:=hid h0;have HI:=hid hIts;have HCV:=hid hCV;clear hkeep h0 hIts hCV;have HCD:=hid hcd;have P1:=hid p1;have P2:=hid p2;have HY:=hid hY;have p0:=hcd.p0;have p3:=hcd.p3;obtain ⟨Q,hQ⟩:∃ Q,Q=n * (D+1):=⟨_,rfl⟩;rw [<-hQ] at hn;obtain ⟨D1,hD1⟩:∃ D1:Nat,(D:Int)+1=D1:=⟨D+1,by omega⟩;obtain ⟨T1,hT1⟩:∃ T1:Nat,(text.size:Int)+1=T1:=⟨text.size+1,by omega⟩;obtain ⟨A1,hA1⟩:∃ A1:Nat,(T1:Int) * (n:Int)=A1:=⟨T1 * n,by push_cast;rfl⟩;obtain ⟨S1,hS1⟩:∃ S1:Nat,(A1:Int) * (D1:Int)=S1:=⟨A1 * D1,by push_cast;rfl⟩;have eS1:S1=(text.size+1) * Q:=by
  have e1:D1=D+1:=by omega
  have e2:T1=text.size+1:=by omega
  have e3:A1=T1 * n:=by exact_mod_cast hA1.symm
  have e4:S1=A1 * D1:=by exact_mod_cast hS1.symm
  rw [e4,e3,e2,e1,hQ,Nat.mul_assoc]
 have hS1b:S1<=46000000:=by
  rw [eS1];exact Nq (Og (show text.size+1<=5001 by omega) hn) (by decide)
 have hDn:D1<=9000:=by
  have h1:=Ny (D+1) (show 1<=n by omega);rw [<-hQ] at h1;omega
 have hA1b:A1<=S1:=by
  have e4:S1=A1 * D1:=by exact_mod_cast hS1.symm
  rw [e4];exact Nat.le_mul_of_pos_right _ (by omega)
 have w1:=aa D1 (by omega);have w2:=aa T1 (by omega);have w3:=aa A1 (by omega);have w4:=aa S1 (by omega);have HQ:=hid (And.intro hQ eS1);have HE:=hid (And.intro hD1 (And.intro hT1 (And.intro hA1 hS1)));clear hcd p1 p2 hY hQ eS1;go_enter Tryz.func89,Tryz.ntmps89
 go_wp2_with fail;go_quiet (fail);have kq:=Kp.drewN [] w nq;have qt:(w.drewN nq).cell? ⟨bt,0,none⟩=some (.string text):=hbt;have qp:(w.drewN nq).cell? ⟨bp,0,none⟩=some (.pointer (some ⟨p,0,none⟩)):=hbp;have hz:Hid ((w.drewN nq).heap.size=w.heap.size):=hid (by simp);generalize w.drewN nq=U at *;clear hbt hbp p0 p3 w1 w2 w3 w4 hD1 hT1 hA1 hS1;obtain ⟨N,hN⟩:∃ N:Nat,N=S1 / 64+1:=⟨_,rfl⟩;have hN2:Hid ((text.size+1) * Q<=64 * N):=hid (by rw [<-HQ.out.2];omega);have hNb:N<=1000000:=by omega
 obtain ⟨M1,hM1⟩:∃ M1:Nat,M1=S1 / 64:=⟨_,rfl⟩;have hdiv:(S1:Int) / 64=(M1:Int):=by omega
 have hsum:(M1:Int)+1=(N:Int):=by omega
 have wM:=aa M1 (by omega);clear hM1;have wN:=aa N (by omega);have hmk:=fun w=>qF w N hNb;have HN:=hid hN;clear hN;go_wp2_with fail;rename_i K1 hK1;have HK1:=hid hK1;clear hK1;refine wp_region_noPanic ?_;refine ay (fun w':World=>w'.cell? ⟨bp,0,none⟩=some (.pointer (some ⟨p,0,none⟩))/\w'.cell? ⟨bt,0,none⟩=some (.string text)) 8 (by kernel_rfl) ?_;have hS:(fun w':World=>w'.cell? ⟨bp,0,none⟩=some (.pointer (some ⟨p,0,none⟩))/\w'.cell? ⟨bt,0,none⟩=some (.string text)) U.drew:=⟨qp,qt⟩;iterate 5 (refine tkn (v:=?_) rfl (by kernel_rfl) (fun _ _ _ h=>h) ⟨rfl,fun w hSw=>?_⟩ hS ?_;rotate_left;(focus ((try dsimp only at hSw);go_simp;(try with_reducible rfl)));(try simp only [Nc,Nb,Na,Act.put,MZ,Nf,Ng]))
 refine eN (i:=5) (j:=7) (by kernel_rfl) rfl rfl (fun K hK=>?ga) (fun K hK=>?gb)
 case' ga=>
  go_simp;have hS1:(fun w':World=>w'.cell? ⟨bp,0,none⟩=some (.pointer (some ⟨p,0,none⟩))/\w'.cell? ⟨bt,0,none⟩=some (.string text)) ((U.alloc (.cells (zs N) 148)).drew):=⟨aF qp _,aF qt _⟩;refine hK.out _ _ (.inr hS1) ?_;clear hK K;refine tk1 6 (v:=?_) rfl (by kernel_rfl) (fun _ _ _ h=>h) ⟨rfl,fun w hSw=>?_⟩ hS1 ?_;rotate_left;· ((try dsimp only at hSw);go_simp;(try with_reducible rfl))
  (try simp only [Nc,Nb,Na,Act.put,MZ,Nf,Ng])
  refine ag (i:=7) (by kernel_rfl) rfl (fun K hK=>?_);go_simp;refine hK.out _ _ (.inr ⟨aF (w:=U.alloc (.cells (zs N) 148)) hS1.1 _,aF (w:=U.alloc (.cells (zs N) 148)) hS1.2 _⟩) ?_;clear hK K;refine ag (i:=8) (by kernel_rfl) rfl (fun K hK=>?_);rw [Nj (by rfl)];refine wp_store_mid 159 (.tmp 5) (.tmp 28) rfl (U.heap.size+1) 0 (gY p text U.heap.size N).toArray rfl rfl ?hth Tryz.JE (all_oneCell_toArray (jI p text U.heap.size N)) ?_
  case hth=>(have:=Mh (U.alloc (.cells (zs N) 148));simpa using this)
  refine hK.out _ _ (.inl rfl) ?_;clear hK K;refine au (by kernel_rfl) ?_ _;refine NoPanic.normal ?_;simp only [Nc,Nb,Na,Act.put];have fs:Fg [] U ((((U.alloc (.cells (zs N) 148)).alloc (.cells z28 159)).drew).setCells (U.heap.size+1) 0 (gY p text U.heap.size N).toArray.toList) (U.heap.size+1) p (U.heap.size) N 0 text [] (.slice none 0 0) (.slice none 0 0) (.slice none 0 0) mc0:=by
   refine Cf ((Kp.alloc _ _ _).trans ((Kp.alloc _ _ _).trans (Kp.drew _ _))) (by omega) (by omega) (by omega) ?_ ?_ ?_ ?_ (fun e he=>by cases he)
   .have:=Mh (U.alloc (.cells (zs N) 148));simpa using this
   .intro i;simp
   .simp;omega
   .exact fun i hi=>⟨by have:=dQ U (zs N) 148 i _ (pW N i hi);rw [Nw] at this;exact aF this _,(lJ (by have:=dQ U (zs N) 148 i _ (pW N i hi);rwa [Nw] at this) (by simp) _)⟩
  generalize (((U.alloc (.cells (zs N) 148)).alloc (.cells z28 159)).drew).setCells (U.heap.size+1) 0 (gY p text U.heap.size N).toArray.toList=W at *;have hflo:w.heap.size<=U.heap.size+1:=by have:=hz.out;omega
  clear hS hS1;have hUz:Hid (U.heap.size=w.heap.size):=hz;obtain ⟨f,hfe⟩:∃ f,f=U.heap.size+1:=⟨_,rfl⟩;obtain ⟨sb,hsbe⟩:∃ sb,sb=U.heap.size:=⟨_,rfl⟩;rw [<-hfe,<-hsbe] at fs
 case' gb=>
  go_simp;have hS1:(fun w':World=>w'.cell? ⟨bp,0,none⟩=some (.pointer (some ⟨p,0,none⟩))/\w'.cell? ⟨bt,0,none⟩=some (.string text)) ((U.alloc (.cells z28 159)).drew):=⟨aF qp _,aF qt _⟩;refine hK.out _ _ (.inr hS1) ?_;clear hK K;refine ag (i:=5) (by kernel_rfl) rfl (fun K hK=>?_);go_simp;have hS2:(fun w':World=>w'.cell? ⟨bp,0,none⟩=some (.pointer (some ⟨p,0,none⟩))/\w'.cell? ⟨bt,0,none⟩=some (.string text)) (((U.alloc (.cells z28 159)).alloc (.cells (zs N) 148)).drew):=⟨aF (w:=U.alloc (.cells z28 159)) hS1.1 _,aF (w:=U.alloc (.cells z28 159)) hS1.2 _⟩;refine hK.out _ _ (.inr hS2) ?_;clear hK K;refine tk1 6 (v:=?_) rfl (by kernel_rfl) (fun _ _ _ h=>h) ⟨rfl,fun w hSw=>?_⟩ hS2 ?_;rotate_left;· ((try dsimp only at hSw);go_simp;(try with_reducible rfl))
  (try simp only [Nc,Nb,Na,Act.put,MZ,Nf,Ng])
  refine ag (i:=8) (by kernel_rfl) rfl (fun K hK=>?_);rw [Nj (by rfl)];refine wp_store_mid 159 (.tmp 5) (.tmp 28) rfl U.heap.size 0 (gY p text (U.heap.size+1) N).toArray rfl rfl ?hth Tryz.JE (all_oneCell_toArray (jI p text (U.heap.size+1) N)) ?_
  case hth=>exact nk (Mh U) _
  refine hK.out _ _ (.inl rfl) ?_;clear hK K;refine au (by kernel_rfl) ?_ _;refine NoPanic.normal ?_;simp only [Nc,Nb,Na,Act.put];have hsB:(U.alloc (.cells z28 159)).heap.size=U.heap.size+1:=by simp
  have fs:Fg [] U ((((U.alloc (.cells z28 159)).alloc (.cells (zs N) 148)).drew).setCells U.heap.size 0 (gY p text (U.heap.size+1) N).toArray.toList) (U.heap.size) p (U.heap.size+1) N 0 text [] (.slice none 0 0) (.slice none 0 0) (.slice none 0 0) mc0:=by
   refine Cf ((Kp.alloc _ _ _).trans ((Kp.alloc _ _ _).trans (Kp.drew _ _))) (by omega) (by omega) (by omega) ?_ ?_ ?_ ?_ (fun e he=>by cases he)
   .exact nk (Mh U) _
   .intro i;simp
   .simp
   .exact fun i hi=>⟨by have:=dQ (U.alloc (.cells z28 159)) (zs N) 148 i _ (pW N i hi);rw [Nw,hsB] at this;exact this,by show ((U.alloc (.cells z28 159)).alloc (.cells (zs N) 148)).frozen? _=false;have:=fun j=>(show ((U.alloc (.cells z28 159)).alloc (.cells (zs N) 148)).frozen? ⟨(U.alloc (.cells z28 159)).heap.size,j,none⟩=false by simp);rw [hsB] at this;exact this i⟩
  generalize (((U.alloc (.cells z28 159)).alloc (.cells (zs N) 148)).drew).setCells U.heap.size 0 (gY p text (U.heap.size+1) N).toArray.toList=W at *;have hflo:w.heap.size<=U.heap.size:=by have:=hz.out;omega
  clear hS hS1 hS2 hsB;have hUz:Hid (U.heap.size=w.heap.size):=hz;obtain ⟨f,hfe⟩:∃ f,f=U.heap.size:=⟨_,rfl⟩;obtain ⟨sb,hsbe⟩:∃ sb,sb=U.heap.size+1:=⟨_,rfl⟩;rw [<-hsbe,<-hfe] at fs
 all_goals
  rw [<-hfe] at hflo ⊢;clear hfe hsbe;have FS:=hid fs;clear fs hmk wN wM hsum hdiv;refine HK1.out _ _ ?_;clear HK1 K1;obtain ⟨G2,hG2⟩:∃ G2:Nat,(2:Int) * (G:Int)=(G2:Int):=⟨2 * G,by push_cast;rfl⟩;obtain ⟨mm,hm⟩:∃ mm:Nat,(2:Int)+(G2:Int)=(mm:Int):=⟨2+G2,by push_cast;rfl⟩;have wg:=aa G2 (by omega);have wm:=aa mm (by omega);have hm20:mm<=20:=by omega
  have HMM:Hid (2+2 * G=mm):=hid (by omega);have hsl:∀ V:World,(Instr.sliceAt 157 (.pointer (some ⟨f,8,none⟩)) none (some (.int .i64 (mm:Int))) none).run Tryz.prog V=.ok (.slice (some ⟨f,8,none⟩) mm 20) V:=fun V=>lh V f mm hm20;have BD0:Hid (Bd 0 [] W):=hid (HKEEP.out 0 [] w W H0.out (fun j hj=>(kq.trans FS.out.kp).block j hj (by simp)) (fun e he=>by cases he) (kq.trans FS.out.kp).os (kq.trans FS.out.kp).tape (kq.trans FS.out.kp).output);have HU:Hid (Cd U p g c n D cd/\U.cell? ⟨p,1,none⟩=some (.int .i64 bg)/\U.cell? ⟨p,2,none⟩=some (.int .i64 G)):=hid ⟨HCD.out.aj kq,(kq.cell (p:=⟨p,1,none⟩) HCD.out.hp (by simp)).trans P1.out,(kq.cell (p:=⟨p,2,none⟩) HCD.out.hp (by simp)).trans P2.out⟩;have QT:=hid (And.intro qp qt);clear qp qt;obtain ⟨M,hM⟩:∃ M,M=(text.size+1) * (n * (D+1)):=⟨_,rfl⟩;have HMN:Hid (0+M<=64 * N):=hid (by rw [hM,<-HQ.out.1,Nw];exact hN2.out);have HM:=hid hM;clear hM;refine (wpIn_wide (n:=3)).1 ?_
  gi_wp2
  gi_loopw [6] (fun v wr=>∃ (fr i:Nat) (Z:List (Nat×Obj)) (wb:World) (s:Mc) (pl:Nat) (u3 u4 u5:Value),v=.int .i64 fr/\fr<=text.size+1/\i<=bs.length/\Hid (Fg Z wb wr f p sb N pl text [] u3 u4 u5 s)/\Hid (s.left=[]/\s.ahead=[])/\Hid (wb.heap.size=w.heap.size)/\Hid (Cd wb p g c n D cd/\wb.cell? ⟨p,1,none⟩=some (.int .i64 bg)/\wb.cell? ⟨p,2,none⟩=some (.int .i64 G))/\Hid (wb.cell? ⟨bp,0,none⟩=some (.pointer (some ⟨p,0,none⟩))/\wb.cell? ⟨bt,0,none⟩=some (.string text))/\Hid (Bd i Z wr)/\Hid (ItsG cd n D text bg (bs.drop i) fr s)/\Hid (∀ e∈Z,w.heap.size<=e.1)) (fun _ wr=>Jo wr sb 0 M)
  case atStart=>exact ⟨0,0,[],U,mc0,0,_,_,_,rfl,by omega,by omega,FS,hid ⟨rfl,rfl⟩,hUz,HU,QT,BD0,HI,hid (fun e he=>by cases he)⟩
  case round=>
   clear FS BD0 HU QT HI;obtain ⟨fr,i,Z,wb,s,pl,u3,u4,u5,rfl,hfr,hib,FS,HL,HB,HCW,HCE,HBD,HIT,HZL⟩:=hrel
   gi_wp2_with fail
   refine ⟨trivial,?_⟩;refine (callsIn_wide.2 (lj (fr:=fr) FS.out HL.out.1 HL.out.2 HCW.out.1 HCW.out.2.1 hbg (by rw [<-HQ.out.1];exact hn) (by rw [<-HQ.out.1];exact hN2.out) hNb htx hfr)).mono ?_;rintro e W1 ⟨s',pl',x3,x4,x5,rfl,fg,hl1,ha1,runs⟩;have FG:=hid fg;have RU:=hid runs;have HLA:=hid (And.intro hl1 ha1);have b0:=(fg.kp.cell (p:=⟨bp,0,none⟩) (World.block_lt_of_cell? _ _ HCE.out.1) (by simp)).trans HCE.out.1;have b2:=(fg.kp.cell (p:=⟨p,2,none⟩) HCW.out.1.hp (by simp)).trans HCW.out.2.2;have BD1:Hid (Bd i Z W1):=hid (HKEEP.out i Z _ W1 HBD.out (fun j hj=>(fg.kp.block j (by rw [HB.out];exact hj) (by simp)).trans (FS.out.kp.block j (by rw [HB.out];exact hj) (by simp)).symm) (fun e he=>(fg.fx e he).1) (fg.kp.os.trans FS.out.kp.os.symm) (fg.kp.tape.trans FS.out.kp.tape.symm) (fg.kp.output.trans FS.out.kp.output.symm));clear runs fg hl1 ha1;obtain ⟨fdv,hfdv⟩:∃ b,s'.fd=b:=⟨_,rfl⟩;rw [hfdv]
   have hit:=HIT.out
   cases fdv with
   | false=>
    have HE:Hid (i=bs.length):=hid (by
     by_cases q:i < bs.length
     .rw [NN q] at hit;have:=(hit s' RU.out).1;rw [hfdv] at this
      cases this
     .omega)
    clear hit
    gi_wp2
    go_end0;exact ⟨⟨_,rfl⟩,.inl ⟨Z,by rw [<-HE.out];exact BD1.out⟩⟩
   | true=>
    by_cases q:i < bs.length
    case neg=>
     rw [OA (by omega)] at hit;have:=hit s' RU.out;rw [hfdv] at this
     cases this
    rw [NN q] at hit;obtain ⟨_,hbest,fr',hb1,hun,hle,hits⟩:=hit s' RU.out;have HUN:Hid (uns s'.sn 0 M < uns s.sn 0 M):=hid (by rw [HM.out];exact hun);clear hun;obtain ⟨fn,tmps,assign,body,hy,hR⟩:=HY.out W1 f 2 i bs[i] Z (Nk q) BD1.out (by rw [<-hbest];exact FG.out.eJ) hflo (fun e he=>(FG.out.fx e he).2.1);rw [HMM.out] at hy;have HR:=hid hR;have HITS:=hid hits;have HB1:=hid (And.intro hbest hb1);clear hR hits hit hbest hb1
    gi_wp2
    refine HR.out.mono ?_;rintro e W2 ⟨S,Z2,kS,hS,hZ2,(⟨rfl,hB⟩ | ⟨rfl,hX⟩)⟩
    .have hS':∀ T∈S,T < wb.heap.size\/∃ o,(T,o)∈Z:=fun T hT=>by
      rcases hS T hT with r | r
      .exact .inl (by rw [HB.out];exact (HCV.out T r).1)
      .exact .inr r
     have fg2:=FG.out.Gh kS hS' hZ2;have nin:∀ x,x < w.heap.size->x∉CV->x∉S:=fun x hx hn m=>by
      rcases hS x m with r | ⟨o,r⟩
      .exact hn r
      .have:=HZL.out _ r;simp at this;omega
     have bk:∀ x,x < w.heap.size->x∉CV->(Iy W2 wb.heap.size).heap[x]? = wb.heap[x]?:=fun x hx hn=>
      (Cl (Nq FG.out.kp.size kS.size) (by rw [HB.out];exact hx)).trans ((kS.block x (Ni (by rw [HB.out];exact hx) FG.out.kp.size) (nin x hx hn)).trans (FG.out.kp.block x (by rw [HB.out];exact hx) (by simp)))
     have hpl:p < w.heap.size:=by rw [<-HB.out];exact HCW.out.1.hp
     have hgl:g < w.heap.size:=by rw [<-HB.out];exact HCW.out.1.hg
     have hbpl:bp < w.heap.size:=by rw [<-HB.out];exact World.block_lt_of_cell? _ _ HCE.out.1
     have hbtl:bt < w.heap.size:=by rw [<-HB.out];exact World.block_lt_of_cell? _ _ HCE.out.2
     have bkp:=bk p hpl (fun m=>(HCV.out p m).2.1 rfl);have bkg:=bk g hgl (fun m=>(HCV.out g m).2.2.1 rfl);have bkt:=bk bt hbtl (fun m=>(HCV.out bt m).2.2.2.1 rfl);have bkb:=bk bp hbpl (fun m=>(HCV.out bp m).2.2.2.2 rfl);have HC2:Hid (Cd (Iy W2 wb.heap.size) p g c n D cd/\(Iy W2 wb.heap.size).cell? ⟨p,1,none⟩=some (.int .i64 bg)/\(Iy W2 wb.heap.size).cell? ⟨p,2,none⟩=some (.int .i64 G)):=hid ⟨HCW.out.1.blocks bkp bkg,(World.cell?_of_block bkp).trans HCW.out.2.1,(World.cell?_of_block bkp).trans HCW.out.2.2⟩;have HE2:Hid ((Iy W2 wb.heap.size).cell? ⟨bp,0,none⟩=some (.pointer (some ⟨p,0,none⟩))/\(Iy W2 wb.heap.size).cell? ⟨bt,0,none⟩=some (.string text)):=hid ⟨(World.cell?_of_block bkb).trans HCE.out.1,(World.cell?_of_block bkt).trans HCE.out.2⟩
     have HZ2:Hid (∀ e∈Z2,w.heap.size<=e.1):=hid (fun e he=>by
      rcases (hZ2 e he).2 with ⟨o,r⟩ | r
      .exact HZL.out (e.1,o) r
      .have:=FG.out.kp.size;rw [HB.out] at this
       omega)
     have c9:W2.cell? ⟨f,8+1,none⟩=some (.int .i64 (fr':Int)):=by
      have:=fg2.eJ 1 _ rfl;rw [this]
      congr 2
      rw [HB1.out.1];exact HB1.out.2
     have c9':W2.cell? ⟨f,9,none⟩=some (.int .i64 (fr':Int)):=c9;have F2:=hid fg2;have HSZ:Hid ((Iy W2 wb.heap.size).heap.size=w.heap.size):=hid ((jK (Nq FG.out.kp.size kS.size)).trans HB.out);have HBB:=hid hB;clear bk nin fg2 hS hS' hZ2 bkp bkg bkt bkb kS hB
     gi_wp2
     go_round
     case rel=>exact ⟨fr',i+1,Z2,_,s',pl',x3,x4,x5,rfl,hle,by omega,F2,HLA,HSZ,HC2,HE2,HBB,HITS,HZ2⟩
     case measure=>rw [F2.out.uns 0 M HMN.out,FS.out.uns 0 M HMN.out];exact HUN.out
    .gi_wp2
     refine bodyPost_ret (results_none rfl _ _ _) rfl ?_;exact ⟨⟨_,rfl⟩,.inr hX⟩
end Go.Proofs.YtiahkfoojjpaaaaGreatDoor
namespace Go.Proofs.YtiahkfoojjpaaaaGreatDoor
open Go.RowKit
def OutS {α:Type} (r:Except uh α) (ok:α->Ending->World->Prop) (b:Nat) (w:World) (e:Ending) (w':World):Prop:=
 match r with
 | .ok a=>ok a e w'
 | .error (E,pl)=>e=gX E pl/\Mv b w w'
section
variable {w w':World} {b k:Nat} {src:ByteArray}
theorem tJ (x:Int) (hr:Cur w b src k) (h:saw src k x=true) :
  Calls Tryz.prog 143 #[.pointer (some ⟨b,0,none⟩),.int .u8 x] w fun e w'=>e=.returned (.tuple #[])/\Cur w' b src (k+1)/\Mv b w w':=by
 have H:=hid (aX x hr h);clear h;go_enter Tryz.func143,Tryz.ntmps143
 go_wp2_with fail;refine H.out.mono ?_;rintro e w1 ⟨rfl,h1,m1⟩;go_wp2_with fail;go_end0;exact ⟨rfl,h1,m1⟩
theorem uk {s:ByteArray} {f:Nat}:∀ {n k e:Nat},wdE s f n k=.ok e->wdN s f n k=some e
 | 0,_,_,h=>by cases h
 | n+1,k,e,h=>by
  unfold wdE at h;unfold wdN;split at h
  .rename_i hw;rw [Nj hw];split at h
   .cases h
   .rename_i h8;rw [Nh h8];exact uk h
  .rename_i hw;rw [Nh hw];split at h
   .cases h
   .rename_i hk;rw [Nh hk];injection h with h;rw [h]
theorem rp {s:ByteArray} {f:Nat}:∀ {n k pl:Nat},s.size < k+n->k<=s.size->wdE s f n k=.error pl->wdF s f n k=some pl
 | 0,k,_,hn,hk,_=>by omega
 | n+1,k,pl,hn,hk,h=>by
  unfold wdE at h;unfold wdF;split at h
  .rename_i hw;rw [Nj hw];split at h
   .rename_i h8;rw [Nj h8];injection h with h;rw [h]
   .rename_i h8;rw [Nh h8];have:=BR hw;exact rp (by omega) (by omega) h
  .rename_i hw;rw [Nh hw];split at h
   .rename_i hk;rw [Nj hk];injection h with h;rw [h]
   .cases h
theorem Mf {s:ByteArray} {f:Nat}:∀ {n k e:Nat},k<=s.size->wdE s f n k=.ok e->k<=e/\e<=s.size/\(f<=k->f < e/\(k<=f+8->e<=f+8))
 | 0,_,_,_,h=>by cases h
 | n+1,k,e,hk,h=>by
  unfold wdE at h;split at h
  .rename_i hw;have:=BR hw;split at h
   .cases h
   .have:=Mf (by omega) h;omega
  .split at h
   .cases h
   .injection h with h;omega
theorem Fk {s:ByteArray}:∀ (n k:Nat),k<=skB s n k/\(k<=s.size->skB s n k<=s.size)
 | 0,k=>⟨Np _,fun h=>h⟩
 | n+1,k=>by
  unfold skB;split
  .rename_i h;have:=xw h;have ih:=Fk (s:=s) n (k+1);exact ⟨by omega,fun _=>ih.2 (by omega)⟩
  .exact ⟨Np _,fun h=>h⟩
theorem qX (s:ByteArray) (k:Nat):k<=blk s k:=(Fk (s:=s) _ k).1
theorem eE {s:ByteArray} {k:Nat} (h:k<=s.size):blk s k<=s.size:=(Fk (s:=s) _ k).2 h
theorem rX {s:ByteArray} {lo hi f:Nat}:∀ {n v k e x:Nat},s.size < k+n->k<=s.size->numE s lo hi f n v k=.ok (e,x)->numN s lo hi f n v k=some (x,e)
 | 0,_,k,_,_,hn,hk,_=>by omega
 | n+1,v,k,e,x,hn,hk,h=>by
  unfold numE at h;unfold numN;split at h
  .rename_i hd;rw [Nj hd];obtain ⟨hlt,_⟩:=BS hd;split at h
   .cases h
   .rename_i hc;rw [Nh hc];exact rX (by omega) (by omega) h
  .rename_i hd;rw [Nh hd];injection h with h;injection h with h1 h2;rw [h1,h2]
theorem rY {s:ByteArray} {lo hi f:Nat}:∀ {n v k pl:Nat},numE s lo hi f n v k=.error pl->numF s lo hi f n v k=some pl
 | 0,_,_,_,h=>by cases h
 | n+1,v,k,pl,h=>by
  unfold numE at h;unfold numF;split at h
  .rename_i hd;rw [Nj hd];split at h
   .rename_i hc;rw [Nj hc];injection h with h;rw [h]
   .rename_i hc;rw [Nh hc];exact rY h
  .cases h
theorem yZ {s:ByteArray} {lo hi f:Nat}:∀ {n v k e x:Nat},k<=s.size->v<=hi->numE s lo hi f n v k=.ok (e,x)->k<=e/\e<=s.size/\x<=hi/\(n≠0->isD s k=true->k < e/\lo<=x)
 | 0,_,_,_,_,hk,hv,h=>by
  injection h with h;injection h with h1 h2;subst h1 h2;exact ⟨Np _,hk,hv,fun h=>absurd rfl h⟩
 | n+1,v,k,e,x,hk,hv,h=>by
  unfold numE at h;split at h
  .rename_i hd;obtain ⟨hlt,_⟩:=BS hd;split at h
   .cases h
   .rename_i hc;have ih:=yZ (by omega) (by omega) h;refine ⟨by omega,ih.2.1,ih.2.2.1,fun _ _=>⟨by omega,?_⟩⟩;by_cases hn:n=0
    .subst hn;injection h with h;injection h with h1 h2;omega
    .cases hd2:isD s (k+1)
     .match n,hn with
      | n+1,_=>
       unfold numE at h;rw [hd2,Nh (by simp)] at h;injection h with h;injection h with h1 h2;omega
     .exact (ih.2.2.2 hn hd2).2
  .rename_i hd;injection h with h;injection h with h1 h2;subst h1 h2;exact ⟨Np _,hk,hv,fun _ h=>absurd h hd⟩
theorem num_s {lo hi:Nat} (hhi:hi<=1000000) (hr:rh w b src k):Calls Tryz.prog 146 #[.pointer (some ⟨b,0,none⟩),.int .i64 lo,.int .i64 hi] w (OutS (flt4 (Jq src lo hi k)) (fun p e w'=>e=.returned (.int .i64 p.2)/\Cur w' b src p.1/\Mv b w w') b w):=by
 unfold Jq;have hle:=hr.cur.le
 cases h:numE src lo hi k (src.size+1) 0 k with
 | ok p=>exact rV hr.cur hhi (rX (by omega) hle h)
 | error pl=>exact Bu hr hhi (rY h)
theorem gj {s esc:ByteArray} {k l:Nat} {c:UInt8} (h:na s esc k=.ok (l,c)):k < l/\l<=s.size:=by
 unfold na at h;split at h
 .split at h
  .split at h
   .cases h
   .injection h with h;injection h with h1 h2;omega
  .cases h
 .split at h
  .injection h with h;injection h with h1 h2;omega
  .cases h
theorem part_e (esc:ByteArray) (hr:Cur w b src k) (h92:saw src k 92=true) (hk1:k+1 < src.size) {v:Int} (hix:Lib.indexByte esc.data.toList (src[k+1]'hk1)=v) (hv:0<=v) :
  Calls Tryz.prog 138 #[.pointer (some ⟨b,0,none⟩),.string esc] w fun e w'=>e=.returned (.int .u8 ((MO (src[k+1]'hk1)).toNat:Nat))/\Cur w' b src (k+2)/\Mv b w w':=by
 have hsm:=hr.small;have H:=hid h92;obtain ⟨k1,hkk⟩:∃ k1,k1=k+1:=⟨_,rfl⟩;have e1:(k:Int)+1=(k1:Int):=by omega
 have wk:=aa k1 (by omega);have he:((k1:Int) == (src.size:Int))=false:=by rw [Nr];omega
 have hk2:k1 < src.size:=by omega
 obtain ⟨u,hu⟩:∃ u:UInt8,u=src[k+1]'hk1:=⟨_,rfl⟩;rw [<-hu] at hix ⊢;obtain ⟨y,hy⟩:∃ y:Nat,y=u.toNat:=⟨_,rfl⟩;have c5:(⟨src.data⟩:ByteArray)[k1].toNat=y:=by simp only [hkk];rw [hy,hu]
 have HI2:Hid (Lib.indexByte esc.data.toList ((y:Int)).toNat.toUInt8=v):=hid (by rw [hy];simpa using hix);obtain ⟨k2,hkk2⟩:∃ k2,k2=k+2:=⟨_,rfl⟩;have e2:(k:Int)+2=(k2:Int):=by omega
 have wk2:=aa k2 (by omega);have e3:(k2:Int) - 1=(k1:Int):=by omega
 have HY:=hid (And.intro hy (And.intro hkk hkk2));have hk2le:k2<=src.size:=by omega
 have hyv:∀ z:Nat,z < 256->(((y:Int) == (z:Int))=true ↔ u=UInt8.ofNat z):=fun z hz=>by
  rw [beq_iff_eq,hy];constructor
  .intro q;apply UInt8.toNat_inj.1;rw [UInt8.toNat_ofNat'];omega
  .intro q;rw [q,UInt8.toNat_ofNat'];omega
 have HYV:=hid hyv;clear hix hy hkk hkk2 h92 hk1 hyv hu;go_enter Tryz.func138,Tryz.ntmps138
 go_wp2_with fail;refine (df 92 hr H.out).mono ?_;rintro e w1 ⟨rfl,h1,m1⟩;have c0:=h1.c0;have c1:=h1.c1;go_wp2_with fail;go_quiet ((go_at_call 162;exact lE _ _ HI2.out _ _));have h2:=h1.drewN nq;have m2:=m1.trans (Mv.drewN b w1 nq);obtain ⟨w2,hw2⟩:∃ w2,w2=w1.drewN nq:=⟨_,rfl⟩;rw [<-hw2] at h2 m2 ⊢;clear hw2 c0 c1 h1 m1;have c1:=h2.c1;have f1:=h2.free 1;have h3:Cur (w2.setCell ⟨b,1,none⟩ (.int .i64 (k2:Int))) b src k2:=by
  refine ⟨by simpa [World.setCell] using h2.lt,hk2le,h2.small,?_,?_,fun i=>by simpa using h2.free i⟩
  .rw [al _ (by simp)];exact h2.c0
  .rw [aw _ h2.c1]
 have m3:=m2.trans (Mv.step b w2 (.int .i64 (k2:Int)));go_upto_region 7 with fail
 obtain ⟨w3,hw3⟩:∃ w3,w3=w2.setCell ⟨b,1,none⟩ (.int .i64 (k2:Int)):=⟨_,rfl⟩;rw [<-hw3] at h3 m3 ⊢;clear hw3 c1 f1 h2 m2;have d0:=h3.c0;have d1:=h3.c1;go_quiet (fail);have h4:=h3.drewN nq;have m4:=m3.trans (Mv.drewN b w3 nq);clear d0 d1 h3 m3
 cases g1:((y:Int) == 110)
 .have n1:u≠110:=fun q=>by
   have:=(HYV.out 110 (by omega)).2 q;rw [show ((y:Int) == ((110:Nat):Int))=((y:Int) == 110) from rfl,g1] at this
   cases this
  cases g2:((y:Int) == 116)
  .have n2:u≠116:=fun q=>by
    have:=(HYV.out 116 (by omega)).2 q;rw [show ((y:Int) == ((116:Nat):Int))=((y:Int) == 116) from rfl,g2] at this
    cases this
   have HV:Hid ((MO u).toNat=y):=hid (by unfold MO;rw [Nh n1,Nh n2,HY.out.1]);clear n1 n2;go_wp2_with fail;go_ret;refine ⟨?_,by rw [<-HY.out.2.2];exact h4,m4⟩;rw [HV.out];rfl
  .have n2:u=116:=(HYV.out 116 (by omega)).1 g2;have HV:Hid ((MO u).toNat=9):=hid (by unfold MO;rw [Nh n1,Nj n2];rfl);clear n1 n2;go_wp2_with fail;go_ret;refine ⟨?_,by rw [<-HY.out.2.2];exact h4,m4⟩;rw [HV.out];rfl
 .have n1:u=110:=(HYV.out 110 (by omega)).1 g1;have HV:Hid ((MO u).toNat=10):=hid (by unfold MO;rw [Nj n1];rfl);clear n1;go_wp2_with fail;go_ret;refine ⟨?_,by rw [<-HY.out.2.2];exact h4,m4⟩;rw [HV.out];rfl
theorem Br (esc:ByteArray) (hr:rh w b src k) (hk:k < src.size):Calls Tryz.prog 138 #[.pointer (some ⟨b,0,none⟩),.string esc] w (OutS (flt4 (na src esc k)) (fun p e w'=>e=.returned (.int .u8 (p.2.toNat:Nat))/\Cur w' b src p.1/\Mv b w w') b w):=by
 unfold na
 cases h92:saw src k 92
 .rw [Nh (by simp),dif_pos hk];exact part_v esc hr.cur hk rfl h92
 .rw [Nj rfl];by_cases hk1:k+1 < src.size
  .rw [dif_pos hk1];by_cases hx:Lib.indexByte esc.data.toList (src[k+1]'hk1) < 0
   .rw [Nj hx];refine Mw esc hr ?_;unfold rR;rw [h92,dif_pos hk1,xy _ _ hx]
    rfl
   .rw [Nh hx];exact part_e esc hr.cur h92 hk1 rfl (by omega)
  .rw [dif_neg hk1];refine Mw esc hr ?_;unfold rR;rw [h92,dif_neg hk1]
   rfl
end
def OpO {α:Type} (r:Except uh α) (w0:World) (ok:α->World->Prop) (e:Ending) (w':World):Prop:=
 match r with
 | .ok a=>e=.returned (.tuple #[])/\ok a w'
 | .error (E,pl)=>e=gX E pl/\Kp [] w0 w'
section
variable {w0 w:World} {b cb k:Nat} {src:ByteArray} {σ:Sst} {cv:List Value}
theorem text_o (hs:Sr w0 w b src k σ) (hb:Bl w cb cv) (hl:Cv cv) (hf:Sr.Far w0 b σ cb) :
  Calls Tryz.prog 96 #[.pointer (some ⟨b,0,none⟩),.pointer (some ⟨cb,0,none⟩)] w (OpO (flt4 (textE src (src.size+1) (blk src k) [])) w0 (fun q w'=>Sr w0 w' b src q.1 σ/\Bl w' cb ((cv.set 9 (.string (src.extract (blk src k) q.1))).set 10 (.string (ba q.2))))):=by
 obtain ⟨f,hfe⟩:∃ f,f=blk src k:=⟨_,rfl⟩;rw [<-hfe];obtain ⟨R,hR⟩:∃ R,R=textE src (src.size+1) f []:=⟨_,rfl⟩;rw [<-hR];have HRE:=hid hR;clear hR;have hne:cb≠b:=fun e=>hf.bk 0 (by rw [e];rfl);have hlen:=hl.len;have HFE:=hid hfe;clear hfe;obtain ⟨i0,hi,hz0,hz1,hz2⟩:=info_parts Tryz.fH;have HI:=hid (And.intro hi (And.intro hz0 (And.intro hz1 hz2)));clear hi hz0 hz1 hz2;go_enter Tryz.func96,Tryz.ntmps96
 go_wp2_with fail;refine (dG hs.cur).mono ?_;rintro r w1 ⟨rfl,h1,m1⟩;rw [<-HFE.out] at h1;have s1:=hid (hs.move m1 h1);have b1:=hid (hb.aj m1.kp (by simpa using hne));have hC2:=hid s1.out.e.c2;have HF:=hid hf;have hbl:=h1.lt;have hcl:=b1.out.lt;have hsm:=h1.small;have c1:=h1.c1;clear hs hb m1 hf;go_wp2_with fail;go_loopw [5] (fun v wr=>∃ a m acc,f<=a/\src.size+1<=a+m/\acc.length+f<=a/\Cur wr b src a/\Hid (Mv b w1 wr)/\Hid (wr.ownsRow w1.heap.size 5 1 v acc.length (Lib.byteCells acc))/\Hid (R=textE src m a acc)) (fun _ wr=>3000 - iz wr b)
 case atStart=>exact ⟨f,src.size+1,[],Np _,by omega,by simp,h1,hid (Mv.refl _ _),hid ⟨rfl,.inl ⟨rfl,rfl⟩⟩,HRE⟩
 case round=>
  clear HRE c1 h1;obtain ⟨a,m,acc,hka,ham,hak,hrr,HM,HO,HN⟩:=hrel;have HAT:=hid (aC hrr);have hle:=hrr.le
  match m,HN,ham with
  | 0,_,ham=>omega
  | m+1,HN,ham=>
  have hN:=HN.out;unfold textE at hN;clear HN;obtain ⟨A5,cp5,e5,_,_⟩:=aP HO.out;subst e5;have gb:Hid (∀ g,(Value.slice A5 acc.length cp5).ownBlock=some g->w1.heap.size<=g):=hid (fun g hg=>(az HO.out hg).1);by_cases hst:a < src.size/\saw src a 10=false
  case pos=>
   obtain ⟨hk,h10⟩:=hst;rw [Nj ⟨hk,h10⟩] at hN;have he:((a:Int) == (src.size:Int))=false:=by simp;omega
   go_wp2_with fail;refine (dh hrr he).mono ?_;rintro r w2 ⟨rfl,h2,m2⟩;go_wp2_with fail;refine (df 10 h2 h10).mono ?_;rintro r w3 ⟨rfl,h3,m3⟩;have m13:=m2.trans m3;clear h2 m2 m3 h10 he;have PT:=hid (Br escT ⟨h3,((HM.out.trans m13).same 2 (by omega)).trans hC2.out⟩ hk);unfold escT at PT
   cases hp:na src escT a with
   | error pl=>
    rw [hp] at hN;unfold escT at hp;rw [hp] at PT;have HN:=hid hN;clear hN hp;go_wp2_with fail;refine PT.out.mono ?_;rintro r w4 ⟨rfl,m4⟩;go_wp2_with fail;refine ⟨rfl,?_⟩;rw [HN.out];exact ⟨rfl,s1.out.qL (HM.out.trans (m13.trans m4))⟩
   | ok q=>
   obtain ⟨l,x⟩:=q;have hll:=gj hp;rw [hp] at hN;unfold escT at hp;rw [hp] at PT;replace hN:R=textE src m l (acc++[x]):=hN;have HN:=hid hN;clear hN hp;go_wp2_with fail;refine PT.out.mono ?_;rintro r w4 ⟨rfl,h4,m4⟩;have h4:Cur w4 b src l:=h4;have m14:=m13.trans m4;obtain ⟨y,hy⟩:∃ y:Nat,y=x.toNat:=⟨_,rfl⟩;rw [show ((l,x):Nat×UInt8).2.toNat=y from hy.symm];have HY:=hid hy;have HO3:=hid (ai HO.out (fun g hg=>m14.kp.block g (az HO.out hg).2 (by have:=gb.out g hg;simp;omega)));have hsz:acc.length<=2000:=by omega
   have M14:=hid (HM.out.trans m14);clear hy m14 m13 m4 h3;go_wp2_with (at_builtin;refine dE rfl _ _ 49 rfl w1.heap.size 5 i0 (.int .u8 0) 1 1 Tryz.underlying49 HI.out.1 HI.out.2.1 HI.out.2.2.1 HI.out.2.2.2 rfl (by decide) (.slice A5 acc.length cp5) acc.length (Lib.byteCells acc) rfl (ai HO3.out (fun p hp=>(Kp.alloc [] w4 _).block p (az HO3.out hp).2 (by simp))) ⟨w4.heap.size,0,none⟩ 1 1 [.int .u8 y] rfl rfl (fun j u hu=>by rw [Addr.add_mid,Nw];exact (Bl.alloc w4 [.int .u8 y] 5).at_ j u hu) (fun u hu=>by simp at hu;subst hu;rfl) (by unfold maxLen;omega) (by omega) (Nq M14.out.kp.size (Kp.alloc [] w4 _).size) (by omega) ?_;intro g4 cap4 w5 ho4 hg4 hor4)
   have ka:=Kp.alloc [] w4 (.cells #[.int .u8 y] 5);have kg:Kp (Value.slice A5 acc.length cp5).ownBlock.toList w4 w5:=(ka.mono (by simp)).trans (aR (S:=(Value.slice A5 acc.length cp5).ownBlock.toList) hg4 (fun q hq=>by rw [hq];simp));have gm:∀ q,q∈(Value.slice A5 acc.length cp5).ownBlock.toList->w1.heap.size<=q:=fun q hq=>gb.out q (by simpa using hq);have h5:=h4.aj kg (fun q=>by have:=gm b q;omega);have M5:Hid (Mv b w1 w5):=hid (M14.out.past kg hbl (fun q hq=>gm q hq))
   have O5:Hid (w5.ownsRow w1.heap.size 5 1 (.slice (some ⟨g4,0,none⟩) (acc.length+1) cap4) (acc++[x]).length (Lib.byteCells (acc++[x]))):=hid (by
    have e1:Lib.byteCells (acc++[x])=Lib.byteCells acc++[.int .u8 y]:=by rw [HY.out];simp [Lib.byteCells]
    rw [e1,Nn]
    exact ho4)
   have HCA:=hid (aC h5);go_round
   case rel=>exact ⟨l,m,acc++[x],by omega,by omega,by simp;omega,h5,M5,O5,HN⟩
   case measure=>rw [HCA.out,HAT.out];omega
  case neg=>
   rw [Nh hst] at hN;have HN:=hid hN;clear hN;obtain ⟨ea,hea⟩:∃ ea,((a:Int) == (src.size:Int))=ea:=⟨_,rfl⟩
   have SW:Hid (ea=false->saw src a 10=true):=hid (fun q=>by
    rw [q,Nr] at hea
    cases h10:saw src a 10
    .exact absurd ⟨by omega,h10⟩ hst
    .rfl)
   clear hst;go_upto_region 3 with fail
   go_cut [24] from 13 (fun v wx=>∃ wz,wz=wx/\v=.bool false/\Cur wz b src a/\Mv b wr wz)
   case first=>
    cases ea
    .have SW1:Hid (saw src a 10=true):=hid (SW.out rfl);clear SW;go_wp2_with fail;refine (dh hrr hea).mono ?_;rintro r w2 ⟨rfl,h2,m2⟩;go_wp2_with fail;refine (df 10 h2 SW1.out).mono ?_;rintro r w3 ⟨rfl,h3,m3⟩;go_wp2_with fail;go_meet
     case rel=>exact ⟨_,rfl,rfl,h3,m2.trans m3⟩
    .go_wp2_with fail;refine (dh hrr hea).mono ?_;rintro r w2 ⟨rfl,h2,m2⟩;go_wp2_with fail;go_meet
     case rel=>exact ⟨_,rfl,rfl,h2,m2⟩
   case rest=>
   obtain ⟨wz,hwz,rfl,h3,m3⟩:=hcut;subst hwz;have O3:=ai HO.out (fun g hg=>m3.kp.block g (az HO.out hg).2 (by have:=gb.out g hg;simp;omega));have O4:=ai O3 (fun g hg=>(Kp.drew [] _).block g (az O3 hg).2 (by simp));have hcv:=fK O4;have h4:=h3.drew;have M4:=hid (HM.out.trans (m3.trans (Mv.drew b _)));have B4:=hid ((b1.out.aj M4.out.kp (by simpa using hne)));go_upto_region 5 with fail
   have hS:(fun w':World=>w'.cell? ⟨b,0,none⟩=some (.string src)/\w'.cell? ⟨b,1,none⟩=some (.int .i64 (a:Int))/\(convert 49 9 (.slice A5 acc.length cp5)).run Tryz.prog w'=.ok (.string (ba acc)) w') wz.drew:=⟨h4.c0,h4.c1,hcv⟩;clear O3 O4 hcv h3 m3 HO;refine ay (fun w':World=>w'.cell? ⟨b,0,none⟩=some (.string src)/\w'.cell? ⟨b,1,none⟩=some (.int .i64 (a:Int))/\(convert 49 9 (.slice A5 acc.length cp5)).run Tryz.prog w'=.ok (.string (ba acc)) w') 18 (by kernel_rfl) ?_;obtain ⟨w5,hw5⟩:∃ w5,w5=wz.drew:=⟨_,rfl⟩;rw [<-hw5] at hS B4 M4 h4 ⊢;clear hw5;iterate 16 (refine tkn (v:=?_) rfl (by kernel_rfl) (fun _ _ _ h=>h) ⟨rfl,fun w hSw=>?_⟩ hS ?_;rotate_left;(focus ((try dsimp only at hSw);go_simp;(try with_reducible rfl)));(try simp only [Nc,Nb,Na,Act.put,MZ,Nf,Ng]))
   refine ag (i:=16) (by kernel_rfl) rfl (fun K hK=>?_);go_simp;refine hK.out _ _ (.inr hS) ?_;clear hK K;refine ag (i:=17) (by kernel_rfl) rfl (fun K hK=>?_);go_simp;refine hK.out _ _ (.inr hS) ?_;clear hK K;refine ag (i:=18) (by kernel_rfl) rfl (fun K hK=>?_);have p0:=B4.out.at_ 9 _ (Nk (show 9 < cv.length by rw [hlen];omega));have p1:=B4.out.at_ 10 _ (Nk (show 10 < cv.length by rw [hlen];omega));have q0:=B4.out.free 9;have q1:=B4.out.free 10;go_simp;refine hK.out _ _ (.inl rfl) ?_;clear hK K p0 p1 q0 q1 hS;refine au (by kernel_rfl) ?_ _;have ks:Kp [cb] w5 ((w5.setCell ⟨cb,9,none⟩ (.string (src.extract f a))).setCell ⟨cb,10,none⟩ (.string (ba acc))):=(Kp.setCell _ _ (by simp)).trans (Kp.setCell _ _ (by simp));have B5:Bl ((w5.setCell ⟨cb,9,none⟩ (.string (src.extract f a))).setCell ⟨cb,10,none⟩ (.string (ba acc))) cb ((cv.set 9 (.string (src.extract f a))).set 10 (.string (ba acc))):=(B4.out.set 9 _ (by rw [hlen];omega)).set 10 _ (by rw [NO,hlen];omega)
   have S5:=((s1.out.move M4.out h4).other ks (fun y hy=>by simp at hy;rw [hy];exact HF.out));go_wp2_with fail;refine bodyPost_ret (results_none rfl _ _ _) rfl ?_;rw [HN.out];exact ⟨rfl,S5,B5⟩
end
end Go.Proofs.YtiahkfoojjpaaaaGreatDoor
