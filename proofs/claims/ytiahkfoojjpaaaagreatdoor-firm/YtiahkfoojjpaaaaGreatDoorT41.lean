import Derived.Test.YtiahkfoojjpaaaaGreatDoorT40
set_option maxRecDepth 100000
set_option maxHeartbeats 16000000
set_option linter.all false
namespace Go.Proofs.YtiahkfoojjpaaaaGreatDoor
open Go.RowKit
theorem II {s:ByteArray}:∀ {n m k:Nat},k<=s.size->s.size < k+n->s.size < k+m->IJ s n k=some (Ju s m k)
 | 0,_,_,h,h1,_=>by omega
 | _,0,_,h,_,h2=>by omega
 | n+1,m+1,k,h,h1,h2=>by
  unfold IJ Ju;by_cases hk:k < s.size
  .cases h10:saw s k 10
   .simp only [hk,decide_true,Bool.not_false,Bool.and_self,if_true,and_self];exact II (by omega) (by omega) (by omega)
   .simp [hk]
  .simp [hk]
theorem cmtE_gt {s:ByteArray} {k:Nat} (h:saw s k 35=true):∀ {m:Nat},0 < m->k < Ju s m k
 | m+1,_=>by
  have hk:=aM h;have h10:saw s k 10=false:=jo h (by omega);unfold Ju;rw [Ny ⟨hk,h10⟩];have:=(tN (s:=s) m (k+1)).1;omega
theorem Ab {s:ByteArray}:∀ {n m k:Nat},k<=s.size->s.size+1 < k+n->s.size < k+m->Na s n k=some (Ck s m k)
 | 0,_,_,h,h1,_=>by omega
 | _,0,_,h,_,h2=>by omega
 | n+1,m+1,k,h,h1,h2=>by
  unfold Na Ck
  cases h35:saw s k 35
  .simp only [OY,if_false]
   cases hb:(saw s k 10 || saw s k 59 || isB s k)
   .simp only [OY,if_false]
   .simp only [if_true];have hk:k < s.size:=by
     simp only [Pe] at hb;rcases hb with (hb | hb) | hb
     .exact aM hb
     .exact aM hb
     .simp only [isB,Pe] at hb;rcases hb with hb | hb
      .exact aM hb
      .exact aM hb
    exact Ab (by omega) (by omega) (by omega)
  .simp only [if_true];have hc:=cmtE_gt h35 (m:=s.size+1) (by omega);have hl:=(tN (s:=s) (s.size+1) k).2 h;rw [II h (by omega) (show s.size < k+(s.size+1) by omega)];exact Ab hl (by omega) (by omega)
theorem MZ {s:ByteArray} {k:Nat} (h:k<=s.size):Na s (s.size+2) k=some (Ck s (s.size+1) k):=Ab h (by omega) (by omega)
def stepE (s:ByteArray) (m a:Nat) (r:RdS):Except rf RdS:=
 if a < s.size then
  match cmdE s a r with
  | .error q=>.error q
  | .ok (e,r2)=>cmdsE s m e r2
 else .ok r
theorem qU (s:ByteArray) (m k:Nat) (r:RdS):cmdsE s (m+1) k r=stepE s m (Ck s (s.size+1) k) r:=rfl
def endE (s:ByteArray):Except rf RdS->Except rf RdS
 | .error q=>.error q
 | .ok r=>if r.blocks≠[] then .error (6,s.size) else goalsE r.wanted r
theorem Iq (s:ByteArray) (r:RdS):endE s (.ok r)=if r.blocks≠[] then .error (6,s.size) else goalsE r.wanted r:=rfl
section
variable {w0 w:World} {b k:Nat} {src:ByteArray} {σ:Sst} {r:RdS}
theorem jf.goal {ci n:Nat} {c:List Value} {d:du} (h:jf σ r) (hc:σ.cs[ci]? = some c) (hd:r.aE[ci]? = some d):jf { σ with cs:=σ.cs.set ci (c.set 5 (.int .i64 (n:Int))) } { r with aE:=r.aE.set ci { d with goal:=n } }:=by
 have hi:ci < σ.cs.length:=(List.getElem?_eq_some_iff.1 hc).1;refine ⟨by simp [h.len],fun j cv c2 h1 h2=>?_,⟨h.nm.ns,h.nm.nm⟩,h.rg,h.bs,h.ls,h.gs⟩;replace h1:(σ.cs.set ci (c.set 5 (.int .i64 (n:Int))))[j]? = some cv:=h1;replace h2:(r.aE.set ci { d with goal:=n })[j]? = some c2:=h2;by_cases hj:ci=j
 .subst hj;rw [NK hi] at h1;rw [NK (by rw [<-h.len];exact hi)] at h2;injection h1 with h1;injection h2 with h2;subst h1 h2;exact (h.cs ci c d hc hd).goal n
 .rw [NM hj] at h1 h2;exact h.cs j cv c2 h1 h2
theorem F7 {ci pl:Nat} {c:List Value} {x:ByteArray} (hs:Sr w0 w b src k σ) (hc:σ.cs[ci]? = some c) (hx:c[4]? = some (.string x)) (hne:(x.toList == [])=true) :
  Calls Tryz.prog 106 #[.pointer (some ⟨b,0,none⟩),.agg #[.int .i64 (ci:Int),.int .i64 (pl:Int)]] w fun r w'=>r=.returned (.tuple #[])/\Sr w0 w' b src k { σ with cs:=σ.cs.set ci (c.set 5 (.int .i64 (σ.cs.length:Int))) }:=by
 have hilt:ci < σ.cs.length:=(List.getElem?_eq_some_iff.1 hc).1;obtain ⟨g,cap,ev⟩:=fE hs.r.o4 (by omega);have ka:=Kp.alloc [] w (.cells #[.int .i64 (ci:Int),.int .i64 (pl:Int)] 164);have BG:=Bl.alloc w [.int .i64 (ci:Int),.int .i64 (pl:Int)] 164;have s1:=hs.aj ka;have HEV:=hid ev;clear hs;go_enter Tryz.func106,Tryz.ntmps106
 go_upto_region 1 with fail
 obtain ⟨gb,hgb⟩:∃ gb,gb=w.heap.size:=⟨_,rfl⟩;obtain ⟨w1,hw1⟩:∃ w1,w1=w.alloc (.cells #[.int .i64 (ci:Int),.int .i64 (pl:Int)] 164):=⟨_,rfl⟩;rw [<-hgb,<-hw1] at BG;rw [<-hw1] at s1;rw [<-hgb,<-hw1];clear hgb hw1 ka;have c4:=s1.c.c4;rw [ev] at c4;have d0:=BG.at_ 0 _ rfl;clear ev;go_quiet (fail);have s2:=s1.aj (Kp.drewN [] w1 nq);obtain ⟨w2,hw2⟩:∃ w2,w2=w1.drewN nq:=⟨_,rfl⟩;rw [<-hw2] at s2 ⊢;clear hw2 s1 BG c4 d0;have d4:=(s2.oT HEV.out hc (j:=4) (by omega)).trans hx;have c4:=s2.c.c4;rw [HEV.out] at c4;obtain ⟨u5,d5⟩:∃ u,w2.cell? ⟨g,ci * 23+5,none⟩=some u:=by
  have hl5:5 < c.length:=by rw [(s2.r.len c (NO hc)).1];omega
  exact ⟨_,(s2.oT HEV.out hc (j:=5) (by omega)).trans (Nv hl5)⟩
 have f5:w2.frozen? ⟨g,ci * 23+5,none⟩=false:=by
  have o4:=s2.r.o4;rw [HEV.out] at o4;exact o4.frozenAt _
 have S4:=hid (s2.Fk (i:=ci) (j:=5) (v:=.int .i64 (σ.cs.length:Int)) HEV.out hc (by omega) rfl);go_wp2_with fail;refine bodyPost_ret (results_none rfl _ _ _) rfl ?_;exact ⟨rfl,S4.out⟩
theorem tw:∀ (gs:List (Nat×Nat)) (j:Nat) (p:Nat×Nat),gs[j]? = some p->(gs.flatMap fun p:Nat×Nat=>[Value.int .i64 (p.1:Int),.int .i64 (p.2:Int)])[j * 2]? = some (.int .i64 (p.1:Int))/\(gs.flatMap fun p:Nat×Nat=>[Value.int .i64 (p.1:Int),.int .i64 (p.2:Int)])[j * 2+1]? = some (.int .i64 (p.2:Int))
 | [],_,_,h=>by cases h
 | q::gs,0,p,h=>by
  injection h with h;subst h;exact ⟨rfl,rfl⟩
 | q::gs,j+1,p,h=>by
  have:=tw gs j p h;rw [show (j+1) * 2=j * 2+1+1 by omega];exact this
theorem DI {x:ByteArray} (h:x.size=0):(x.toList == [])=true:=by
 have:x=ba []:=Cl (NN h);rw [this,ByteArray.toList_eq,dW]
 rfl
theorem xD {x:ByteArray} (h:x.size≠0):(x.toList == [])=false:=by
 rw [ByteArray.toList_eq,Nz];intro e;exact h (by show x.data.toList.length=0;rw [e];rfl)
def WholeO (w0:World) (b:Nat) (src:ByteArray) (r:RdS) (w':World):Prop:=∃ σ',Sr w0 w' b src src.size σ'/\jf σ' r/\σ'.quiet=qtB src
structure GInv (b:Nat) (src:ByteArray) (gs:List (Nat×Nat)) (vg:Value) (n:Nat) (G:Except rf RdS) (j:Nat) (σ:Sst) (r:RdS):Prop where
 rel:jf σ r
 qt:σ.quiet=qtB src
 hgs:σ.gs=gs
 hvg:σ.vg=vg
 hn:r.aE.length=n
 res:G=goalsE (gs.drop j) r
theorem whole_t (hs:Sr w0 w b src 0 σ) (hw0:Nm w0) (hr:jf σ rd0) :
  Calls Tryz.prog 52 #[.pointer (some ⟨b,0,none⟩)] w (OpO (endE src (cmdsE src (src.size+1) 0 rd0)) w0 (WholeO w0 b src)):=by
 obtain ⟨R,hR⟩:∃ R,R=cmdsE src (src.size+1) 0 rd0:=⟨_,rfl⟩;rw [<-hR];have HR0:=hid (hR.trans (qU _ _ _ _));clear hR;have HW0:=hid hw0;have HB:=hid (MZ (s:=src) (k:=0) (NI _));have hk1:Ck src (src.size+1) 0<=src.size:=(lC _ _).2 (NI _);obtain ⟨k1,hk1e⟩:∃ k1,k1=Ck src (src.size+1) 0:=⟨_,rfl⟩;rw [<-hk1e] at HB HR0 hk1;clear hk1e hw0;have HREL:=hid hr;clear hr;have c0:=hs.cur.c0;have c3:=hs.c.c3;have f3:=hs.cur.free 3;have hsm:=hs.cur.small;go_enter Tryz.func52,Tryz.ntmps52
 go_upto_region 0 with fail
 go_cut [2] from 4 (fun _ wx=>wx=w.setCell ⟨b,3,none⟩ (.bool (qtB src)))
 case first=>
  cases hq:(src.toList == [35,110])
  .go_wp2_with (go_at_call 102;refine (zw _ _ _).mono ?_;rintro e w1 ⟨rfl,rfl⟩)
   go_meet
   case rel=>simp [qtB,hq]
  .go_wp2_with fail;go_meet
   case rel=>simp [qtB,hq]
 case rest=>
 subst hcut;have s1:=hs.quiet (qtB src);go_wp2_with fail;refine (yb s1.cur HB.out).mono ?_;rintro q w2 ⟨rfl,h2,m2⟩;have S2:=hid (s1.move m2 h2);have REL2:Hid (jf { σ with quiet:=qtB src } rd0/\yj rd0 k1/\({ σ with quiet:=qtB src }:Sst).quiet=qtB src):=hid ⟨⟨HREL.out.len,HREL.out.cs,⟨HREL.out.nm.ns,HREL.out.nm.nm⟩,HREL.out.rg,HREL.out.bs,HREL.out.ls,HREL.out.gs⟩,uV.mono (NI _),rfl⟩;clear s1 m2 h2 hs c0 c3 f3;go_wp2_with fail;go_loopw [24] (fun _ wr=>∃ (a m:Nat) (σc:Sst) (r:RdS),a<=src.size/\src.size<=a+m/\Hid (Sr w0 wr b src a σc)/\Hid (jf σc r/\yj r a/\σc.quiet=qtB src)/\Hid (R=stepE src m a r)) (fun _ wr=>3000 - im wr b)
 case atStart=>exact ⟨k1,src.size,_,rd0,hk1,by omega,S2,hid ⟨REL2.out.1,REL2.out.2.1,rfl⟩,HR0⟩
 case round=>
  clear S2 REL2 HR0;obtain ⟨a,m,σc,r,hal,ham,SC,HX,HN⟩:=hrel;have HAT:=hid (aC SC.out.cur);have hN:=HN.out;unfold stepE at hN;clear HN;by_cases ha:a < src.size
  .rw [Ny ha] at hN;have he:((a:Int) == (src.size:Int))=false:=by simp;omega
   go_wp2_with fail;refine (dj SC.out.cur he).mono ?_;rintro q w3 ⟨rfl,h3,m3⟩;have CT:=ID (SC.out.move m3 h3) HW0.out HX.out.1 HX.out.2.1
   cases hc:cmdE src a r with
   | error q=>
    obtain ⟨E,pl⟩:=q;rw [hc] at CT hN;have HCT:=hid CT;have HN:=hid hN;clear CT hN hc;go_wp2_with fail;refine HCT.out.mono ?_;rintro q w4 ⟨rfl,k4⟩;go_wp2_with fail;refine ⟨rfl,?_⟩;rw [HN.out];exact ⟨rfl,k4⟩
   | ok q=>
    obtain ⟨e,r2⟩:=q;obtain ⟨hok2,hae,hes⟩:=IK hsm hal HX.out.2.1 hc;rw [hc] at CT hN;dsimp only at hN
    match m,ham,hN with
    | 0,ham,_=>omega
    | m+1,ham,hN=>
    have HN:=hid (hN.trans (qU _ _ _ _));have HCT:=hid CT;have HB2:=hid (MZ (s:=src) (k:=e) hes);have hb1:=(lC (s:=src) (src.size+1) e).1;have hb2:=(lC (s:=src) (src.size+1) e).2 hes;obtain ⟨k2,hk2⟩:∃ k2,k2=Ck src (src.size+1) e:=⟨_,rfl⟩;rw [<-hk2] at HB2 HN hb1 hb2;have HOK:=hid hok2;clear CT hN hc hk2 hok2;go_wp2_with fail;refine HCT.out.mono ?_;rintro q w4 ⟨rfl,σ',s4,r4,q4⟩;have s4:Sr w0 w4 b src e σ':=s4;have r4:jf σ' r2:=r4;go_wp2_with fail;refine (yb s4.cur HB2.out).mono ?_;rintro q w5 ⟨rfl,h5,m5⟩;have S5:=hid (s4.move m5 h5);have X5:Hid (jf σ' r2/\yj r2 k2/\σ'.quiet=qtB src):=hid ⟨r4,HOK.out.mono hb1,q4.trans HX.out.2.2⟩;clear s4 r4 q4 m5;go_wp2_with fail;go_round
    case rel=>exact ⟨k2,m,σ',r2,hb2,by omega,S5,X5,HN⟩
    case measure=>rw [aC h5,HAT.out];omega
  .rw [Nr ha] at hN;have hae:a=src.size:=by omega
   subst hae;have he:((src.size:Int) == (src.size:Int))=true:=by simp
   have HN:=hid hN;clear hN ha HAT;go_wp2_with fail;refine (dj SC.out.cur he).mono ?_;rintro q w3 ⟨rfl,h3,m3⟩;have S3:=hid (SC.out.move m3 h3);obtain ⟨A8,q8,e8,_,_⟩:=dh S3.out.r.o8;have c8:=S3.out.c.c8;rw [e8,HX.out.1.bs] at c8;clear e8 SC h3 m3 he;by_cases hbs:r.blocks=[]
   case neg=>
    have c1:=S3.out.cur.c1;have hpos:0 < r.blocks.length:=List.length_pos_iff.2 hbs;have hb2:=HX.out.2.1.b8;have HBS:=hid hbs;clear hbs;go_wp2_with fail;refine ⟨rfl,?_⟩;rw [HN.out,Iq,Ny HBS.out];exact ⟨rfl,S3.out.r.kp⟩
   case pos=>
   rw [hbs] at c8;have HE:Hid (endE src R=goalsE r.wanted r):=hid (by rw [HN.out,Iq,Nr (by simp [hbs])]);have hwi:=HX.out.2.1.wi;have hwl:=HX.out.2.1.wl;have HWI:=hid hwi;have INV:Hid (GInv b src r.wanted σc.vg r.aE.length (goalsE r.wanted r) 0 σc r):=hid ⟨HX.out.1,HX.out.2.2,HX.out.1.gs,rfl,rfl,rfl⟩;obtain ⟨A11,q11,e11,_,_⟩:=dh S3.out.r.o11;have c11:=S3.out.c.c11;rw [e11,HX.out.1.gs] at c11;rw [e11,HX.out.1.gs] at INV;obtain ⟨gs,hgs⟩:∃ gs,gs=r.wanted:=⟨_,rfl⟩;rw [<-hgs] at INV c11 HE hwl HWI;obtain ⟨G,hG⟩:∃ G,G=goalsE gs r:=⟨_,rfl⟩;rw [<-hG] at INV HE;obtain ⟨n,hn⟩:∃ n,n=r.aE.length:=⟨_,rfl⟩;rw [<-hn] at INV HWI;have hgl:gs.length<=2000:=by omega
   clear hG hn hgs e11 HX hwi hwl HN hbs;go_wp2_with fail;go_loopw [51] (fun v wr=>∃ (j:Nat) (σd:Sst) (rd:RdS),j<=gs.length/\v=.int .i64 j/\Hid (Sr w0 wr b src src.size σd)/\Hid (GInv b src gs (.slice A11 gs.length q11) n G j σd rd)) (fun v _=>3000 - (intOf v).toNat)
   case atStart=>exact ⟨0,σc,r,NI _,rfl,S3,INV⟩
   case round=>
    clear INV S3 c8 c11;obtain ⟨j,σd,rd,hj,rfl,SD,INV⟩:=hrel;by_cases hjl:j < gs.length
    case neg=>
     have hjn:j=gs.length:=by omega
     subst hjn;go_wp2_with fail;go_end0;rw [HE.out,INV.out.res,O9];exact ⟨rfl,σd,SD.out,INV.out.rel,INV.out.qt⟩
    case pos=>
    obtain ⟨⟨ci,pl⟩,hp⟩:∃ p,gs[j]? = some p:=⟨_,Nv hjl⟩;have hci:ci < n:=HWI.out (ci,pl) (NO hp);have hgd:gs.drop j=(ci,pl)::gs.drop (j+1):=by
     rw [N3 hjl]
     congr 1
     have:=Nv hjl;rw [hp] at this;injection this with this;exact this.symm
    have hG:=INV.out.res;rw [hgd] at hG;obtain ⟨d,hd⟩:∃ d,rd.aE[ci]? = some d:=⟨_,Nv (by rw [INV.out.hn];exact hci)⟩;obtain ⟨cv,hcv⟩:∃ cv,σd.cs[ci]? = some cv:=⟨_,Nv (by rw [INV.out.rel.len,INV.out.hn];exact hci)⟩;have h4:=(INV.out.rel.cs ci cv d hcv hd).rest.c4;unfold goalsE at hG;rw [hd] at hG;dsimp only at hG;obtain ⟨g11,cap,e11⟩:=fE SD.out.r.o11 (by rw [INV.out.hgs];omega);have o11:=SD.out.r.o11;rw [e11,INV.out.hgs] at o11;have p0:wr.cell? ⟨g11,j * 2,none⟩=some (.int .i64 (ci:Int)):=(o11.cellAt (j * 2) (by omega)).trans (tw gs j _ hp).1;have p1:wr.cell? ⟨g11,j * 2+1,none⟩=some (.int .i64 (pl:Int)):=(o11.cellAt (j * 2+1) (by omega)).trans (tw gs j _ hp).2;have hA:A11=some ⟨g11,0,none⟩:=by
     have:=INV.out.hvg;rw [e11] at this;injection this with this;exact this.symm
    subst hA;have ka:=Kp.alloc [] wr (.cells #[.int .i64 (ci:Int),.int .i64 (pl:Int)] 164);have BG:=Bl.alloc wr [.int .i64 (ci:Int),.int .i64 (pl:Int)] 164;have KA:=hid ka;have HC:=hid (And.intro hd (And.intro hcv h4));clear ka o11 e11 hgd hd hcv hp hci h4;by_cases hz:d.label.size=0
    .rw [Ny hz] at hG;have HG:=hid hG;have HZ:=hid (F7 (pl:=pl) (SD.out.aj KA.out) HC.out.2.1 HC.out.2.2 (DI hz));clear hG hz;go_wp2_with fail;refine HZ.out.mono ?_;rintro q w4 ⟨rfl,s4⟩;have S4:=hid s4;clear s4;go_wp2_with fail;go_round
     case rel=>
      refine ⟨j+1,_,_,by omega,rfl,S4,hid ⟨INV.out.rel.goal HC.out.2.1 HC.out.1,INV.out.qt,INV.out.hgs,INV.out.hvg,by simp [INV.out.hn],?_⟩⟩;rw [HG.out,INV.out.rel.len]
     case measure=>simp [intOf];omega
    .rw [Nr hz] at hG
     cases hf:rd.labels.find? (d.label == ·.1) with
     | none=>
      rw [hf] at hG;have hfn:=jl d.label σd.ls 0 0 (by rw [INV.out.rel.ls,tU,hf];rfl);have HG:=hid hG;have HZ:=hid (F9 (pl:=pl) (SD.out.aj KA.out) HC.out.2.1 HC.out.2.2 (xD hz) hfn);clear hG hz hf hfn;go_wp2_with fail;refine HZ.out.mono ?_;rintro q w4 ⟨rfl,k4⟩;go_wp2_with fail;refine ⟨rfl,?_⟩;rw [HE.out,HG.out];exact ⟨rfl,k4⟩
     | some p=>
      obtain ⟨y,n'⟩:=p;rw [hf] at hG;dsimp only at hG;obtain ⟨i',hfn⟩:=gW d.label σd.ls 0 0 y n' (by rw [INV.out.rel.ls];exact hf);have HG:=hid hG;have HZ:=hid (F8 (pl:=pl) (SD.out.aj KA.out) HC.out.2.1 HC.out.2.2 (xD hz) hfn);clear hG hz hf hfn;go_wp2_with fail;refine HZ.out.mono ?_;rintro q w4 ⟨rfl,s4⟩;have S4:=hid s4;clear s4;go_wp2_with fail;go_round
      case rel=>
       refine ⟨j+1,_,_,by omega,rfl,S4,hid ⟨INV.out.rel.goal HC.out.2.1 HC.out.1,INV.out.qt,INV.out.hgs,INV.out.hvg,by simp [INV.out.hn],?_⟩⟩;exact HG.out
      case measure=>simp [intOf];omega
end
structure Nc (σ:Sst) (S:fj):Prop where
 qt:σ.quiet=S.quiet
 len:σ.cs.length=S.aE.length
 cs:∀ (i:Nat) (cv:List Value) (c:du),σ.cs[i]? = some cv->S.aE[i]? = some c->ub σ.fs cv c
 ns:σ.ns=S.names
 rg:σ.ranges=S.ranges
def Ng (w w':World) (b o:Nat) (S:fj):Prop:=∃ σ,Nc σ S/\Scr w.heap.size w'.heap.size w' b o σ/\Kp [] w w'
def ReadO (w:World):Except rf fj->Ending->World->Prop
 | .error (E,k),e,w'=>e=gN E k/\Kp [] w w'
 | .ok S,e,w'=>∃ b,e=.returned (.pointer (some ⟨b,3,none⟩))/\Ng w w' b 3 S
def Cs (src:ByteArray) (S:fj):Prop:=∀ W:World,Nm W->Calls Tryz.prog 35 #[.string src] W fun e w'=>∃ b,e=.returned (.pointer (some ⟨b,3,none⟩))/\Ng W w' b 3 S
def Jl (src:ByteArray) (E k:Nat):Prop:=∀ W:World,Nm W->Calls Tryz.prog 35 #[.string src] W fun e w'=>e=gN E k/\Kp [] W w'
theorem scrE_is {s:ByteArray} (h:¬ 2000 < s.size):scrE s=(match endE s (cmdsE s (s.size+1) 0 rd0) with
  | .error q=>.error q
  | .ok r=>.ok ⟨qtB s,r.aE,r.names,r.ranges⟩):=by
 unfold scrE;rw [Nr h]
 cases cmdsE s (s.size+1) 0 rd0 with
 | error q=>rfl
 | ok r=>
  dsimp only [endE];by_cases hb:r.blocks≠[]
  .rw [Ny hb,Ny hb]
  .rw [Nr hb,Nr hb]
   cases goalsE r.wanted r <;> rfl
theorem ME (src:ByteArray) {w:World} (hw:Nm w):Calls Tryz.prog 35 #[.string src] w (ReadO w (scrE src)):=by
 by_cases hsz:2000 < src.size
 .have e:scrE src=.error (1,0):=by unfold scrE;rw [Ny hsz]
  rw [e];exact CZ hsz w
 .have HSC:=hid (scrE_is hsz);have HW:=hid hw;clear hw;go_enter Tryz.func35,Tryz.ntmps35
  go_wp2_with fail;refine (zX src w (by omega)).mono ?_;rintro q w1 ⟨rfl,k1⟩;go_wp2_with fail;refine (xf w1).mono ?_;rintro q w2 ⟨rfl,ht,k2⟩;have hz2:((w2.alloc (.map #[] 0)).alloc (.map #[] 0)).heap.size=w2.heap.size+1+1:=by simp
  have s5:=JO (by omega) k1 k2 ht (Bl.alloc ((w2.alloc (.map #[] 0)).alloc (.map #[] 0)) (rdV src w1.heap.size w2.heap.size (w2.heap.size+1)) 127) (Kp.alloc _ _ _);rw [hz2] at s5;have WT:=hid (whole_t s5 HW.out ⟨rfl,fun i cv c h=>(by cases h),⟨rfl,rfl⟩,rfl,rfl,rfl,rfl⟩);clear s5;go_wp2_with (refine fU rfl 124 rfl ?_)
  refine WT.out.mono ?_;intro q w6 hq
  cases hE:endE src (cmdsE src (src.size+1) 0 rd0) with
  | error p=>
   obtain ⟨E,pl⟩:=p;rw [hE] at hq HSC;obtain ⟨rfl,k6⟩:=hq;have K6:=hid k6;clear k6 hE WT;go_wp2_with fail;refine ⟨rfl,?_⟩;rw [HSC.out];exact ⟨rfl,K6.out⟩
  | ok r=>
   rw [hE] at hq HSC;obtain ⟨rfl,hq⟩:=hq;have HQ:=hid hq;clear hq hE WT;go_wp2_with fail;go_ret;obtain ⟨σ',s6,r6,q6⟩:=HQ.out;rw [HSC.out];exact ⟨_,rfl,σ',⟨q6,r6.len,r6.cs,r6.nm.ns,r6.rg⟩,s6.scr,s6.r.kp⟩
theorem CW {src:ByteArray} {S:fj} {w:World} {a:Nat} (hw:Nm w) (ha:w.cell? ⟨a,0,none⟩=some (.string src)) (h:Cs src S) :
  Calls Tryz.prog 34 #[.pointer (some ⟨a,0,none⟩)] w fun e w'=>∃ b,e=.returned (.pointer (some ⟨b,3,none⟩))/\Ng w w' b 3 S:=by
 have H:=hid (h w hw);clear h;go_enter Tryz.func34,Tryz.ntmps34
 go_wp2_with fail;refine H.out.mono ?_;rintro e w1 ⟨b,rfl,σ,hT,s1,k1⟩;go_wp2_with fail;go_ret;exact ⟨b,rfl,σ,hT,s1,k1⟩
theorem Gj {s:ByteArray} {k E pl:Nat} (h:gI s k=.error (E,pl)):E≠0:=by
 unfold gI at h;split at h
 .cases h;simp
 .split at h
  .cases h;simp
  .split at h
   .cases h;simp
   .split at h
    .cases h;simp
    .cases h
section
variable {s:ByteArray} {E pl:Nat}
theorem Br {k:Nat} (h:patE s k=.error (E,pl)):E≠0:=by
 unfold patE at h;split at h
 .split at h
  .cases h;simp
  .split at h
   .rename_i q hq
    cases h;exact Gj hq
   .cases h
 .cases h;simp
theorem Cp {k:Nat} (h:adrE s k=.error (E,pl)):E≠0:=by
 unfold adrE at h;split at h
 .split at h
  .cases h;simp
  .cases h
 .split at h
  .cases h
  .split at h
   .rename_i q hq
    cases h;exact Br hq
   .cases h
theorem Jd {k:Nat} (h:adrsE s k=.error (E,pl)):E≠0:=by
 unfold adrsE at h;split at h
 .split at h
  .rename_i q hq
   cases h;exact Cp hq
  .split at h
   .split at h
    .rename_i q hq
     cases h;exact Cp hq
    .cases h
   .cases h
 .cases h
theorem xH {k:Nat} {r:RdS} {c:du} (h:fileE s k r c=.error (E,pl)):E≠0:=by
 unfold fileE at h;split at h
 .cases h;simp
 .split at h <;> cases h
theorem iD:∀ {n k:Nat} {r:RdS} {c:du},flagsE s n k r c=.error (E,pl)->E≠0
 | 0,_,_,_,h=>by cases h;simp
 | n+1,k,r,c,h=>by
  unfold flagsE at h;split at h
  .exact iD h
  .split at h
   .exact iD h
   .split at h
    .split at h
     .cases h;simp
     .exact iD h
    .split at h
     .exact xH h
     .cases h
theorem GO {k:Nat} {r:RdS} {c:du} (h:operE s k r c=.error (E,pl)):E≠0:=by
 unfold operE at h;split at h
 .split at h
  .cases h;simp
  .cases h
 .split at h
  .split at h
   .cases h;simp
   .cases h
  .split at h
   .split at h
    .cases h;simp
    .split at h
     .cases h;simp
     .cases h
   .split at h
    .split at h
     .split at h
      .cases h;simp
      .cases h
     .cases h
    .split at h
     .split at h
      .cases h;simp
      .cases h
     .split at h
      .split at h
       .rename_i q hq
        cases h;exact Br hq
       .split at h
        .cases h;simp
        .exact iD h
      .split at h
       .split at h
        .split at h
         .cases h;simp
         .split at h
          .cases h;simp
          .cases h
        .cases h;simp
       .split at h
        .split at h
         .cases h;simp
         .cases h
        .split at h
         .exact xH h
         .cases h
theorem LQ {k:Nat} {r:RdS} (h:cmdE s k r=.error (E,pl)):E≠0:=by
 unfold cmdE at h;split at h
 .rename_i q hq
  cases h;exact Jd hq
 .rename_i k1 L hL;dsimp only at h;generalize saw s (blk s k1) 33=nt at h;generalize (if nt=true then blk s (blk s k1+1) else blk s k1)=k3 at h;generalize (if L.length=2 then { r with ranges:=r.ranges+1 } else r)=r1 at h;generalize (if L.length=2 then r.ranges else 0)=rn at h;split at h
  .split at h
   .cases h;simp
   .split at h
    .cases h;simp
    .split at h
     .rename_i q hq
      cases h;exact GO hq
     .split at h
      .cases h
      .split at h
       .cases h
       .cases h;simp
  .cases h;simp
theorem xU:∀ {n k:Nat} {r:RdS},cmdsE s n k r=.error (E,pl)->E≠0
 | 0,_,_,h=>by cases h;simp
 | n+1,k,r,h=>by
  unfold cmdsE at h;split at h
  .split at h
   .rename_i q hq
    cases h;exact LQ hq
   .exact xU h
  .cases h
theorem lz:∀ {l:List (Nat×Nat)} {r:RdS},goalsE l r=.error (E,pl)->E≠0
 | [],_,h=>by cases h
 | (i,p)::l,r,h=>by
  unfold goalsE at h;split at h
  .cases h;simp
  .split at h
   .exact lz h
   .split at h
    .cases h;simp
    .exact lz h
theorem JU (h:scrE s=.error (E,pl)):E≠0:=by
 unfold scrE at h;split at h
 .cases h;simp
 .split at h
  .rename_i q hq
   cases h;exact xU hq
  .split at h
   .cases h;simp
   .split at h
    .rename_i q hq
     cases h;exact lz hq
    .cases h
end
theorem IQ {src:ByteArray} {S:fj} {w:World} {a:Nat} (hw:Nm w) (ha:w.cell? ⟨a,0,none⟩=some (.string src)) (h:Cs src S) :
  Calls Tryz.prog 33 #[.func (.func 34) #[] #[.pointer (some ⟨a,0,none⟩)]] w fun e w'=>∃ b,e=.returned (.tuple #[.pointer (some ⟨b,3,none⟩),.int .i64 0,.int .i64 0])/\Ng w w' b 3 S:=by
 have hmf:∀ (fn:Fn) (first cap:Array Value) (w:World),(Instr.makeFunc fn first cap).run Tryz.prog w=.ok (.func fn first cap) w:=fun _ _ _ _=>rfl;go_enter_defers Tryz.func33,Tryz.ntmps33
 go_wp2_with fail;obtain ⟨W,hW⟩:∃ W:World,W=((w.alloc (.cells #[.pointer none] 53)).alloc (.cells #[.int .i64 0] 24)).alloc (.cells #[.int .i64 0] 3):=⟨_,rfl⟩;have kW:Kp [] w W:=by rw [hW];exact (Kp.alloc _ _ _).trans ((Kp.alloc _ _ _).trans (Kp.alloc _ _ _))
 have zW:W.heap.size=w.heap.size+3:=by rw [hW];simp
 have a0:W.cell? ⟨w.heap.size,0,none⟩=some (.pointer none):=by rw [hW];simp [go_sem]
 have a1:W.cell? ⟨w.heap.size+1,0,none⟩=some (.int .i64 0):=by rw [hW];simp [go_sem]
 have a2:W.cell? ⟨w.heap.size+1+1,0,none⟩=some (.int .i64 0):=by rw [hW];simp [go_sem]
 have f0:W.frozen? ⟨w.heap.size,0,none⟩=false:=by rw [hW];simp [go_sem]
 have f1:W.frozen? ⟨w.heap.size+1,0,none⟩=false:=by rw [hW];simp [go_sem]
 have f2:W.frozen? ⟨w.heap.size+1+1,0,none⟩=false:=by rw [hW];simp [go_sem]
 rw [<-hW];clear hW;refine (CW (hw.aj kW (by simp)) ((kW.cell (p:=⟨a,0,none⟩) (World.block_lt_of_cell? _ _ ha) (by simp)).trans ha) h).mono ?_;rintro e w1 ⟨p,rfl,σ,hT,sc,k1⟩;have b0:=(k1.cell (p:=⟨w.heap.size,0,none⟩) (by simp;omega) (by simp)).trans a0;have b1:=(k1.cell (p:=⟨w.heap.size+1,0,none⟩) (by simp;omega) (by simp)).trans a1;have b2:=(k1.cell (p:=⟨w.heap.size+1+1,0,none⟩) (by simp;omega) (by simp)).trans a2;have g0:=(k1.frozen (p:=⟨w.heap.size,0,none⟩) (by simp;omega) (by simp)).trans f0;have g1:=(k1.frozen (p:=⟨w.heap.size+1,0,none⟩) (by simp;omega) (by simp)).trans f1;have g2:=(k1.frozen (p:=⟨w.heap.size+1+1,0,none⟩) (by simp;omega) (by simp)).trans f2;clear a0 a1 a2 f0 f1 f2;go_wp2_with fail;refine leaves_cons (f:=49) (args:=#[.pointer (some ⟨w.heap.size,0,none⟩),.pointer (some ⟨w.heap.size+1,0,none⟩),.pointer (some ⟨w.heap.size+1+1,0,none⟩)]) (by simp) (by simp [go_sem]) ?_;refine (Aa _ _ _ _).mono ?_
 rintro e u' w'' ⟨rfl,rfl,rfl⟩
 have K1:Kp [w.heap.size,w.heap.size+1,w.heap.size+1+1] w1 (((w1.setCell ⟨w.heap.size,0,none⟩ (.pointer (some ⟨p,3,none⟩))).setCell ⟨w.heap.size+1,0,none⟩ (.int .i64 0)).setCell ⟨w.heap.size+1+1,0,none⟩ (.int .i64 0)):=
  (Kp.setCell _ _ (by simp)).trans ((Kp.setCell _ _ (by simp)).trans (Kp.setCell _ _ (by simp)))
 have sc2:=sc.aj K1 (by intro x hx;simp at hx;omega);have K2:=Kp.own (x:=w.heap.size) (Kp.own (x:=w.heap.size+1) (Kp.own (x:=w.heap.size+1+1) (S:=[w.heap.size+1,w.heap.size]) (((kW.trans k1).mono (by simp)).trans (K1.mono (by simp))) (by omega)) (by omega)) (by omega);simp [Leaves,settle,results,Tryz.results33,go_sem,b0,b1,b2];exact ⟨σ,hT,by simpa [World.setCell] using sc2.lower (by omega),K2⟩
theorem rM {src:ByteArray} {S:fj} {w:World} (hw:Nm w) (h:Cs src S) :
  Calls Tryz.prog 22 #[.string src] w fun e w'=>∃ b,e=.returned (.tuple #[.pointer (some ⟨b,3,none⟩),.int .i64 0,.int .i64 0])/\Ng w w' b 3 S:=by
 have hmf:∀ (fn:Fn) (first cap:Array Value) (w:World),(Instr.makeFunc fn first cap).run Tryz.prog w=.ok (.func fn first cap) w:=fun _ _ _ _=>rfl;have k0:=Kp.alloc [] w (.cells #[.string src] 9);go_enter Tryz.func22,Tryz.ntmps22
 go_wp2_with fail;refine (IQ (a:=w.heap.size) (hw.aj k0 (by simp)) (by simp) h).mono ?_;rintro e w1 ⟨p,rfl,σ,hT,sc,k1⟩;go_wp2_with fail;go_ret3
 exact ⟨p,rfl,σ,hT,sc.lower k0.size,k0.trans k1⟩
theorem DL {src:ByteArray} {S:fj} {w:World} (hw:Nm w) (h:Cs src S) :
  Calls Tryz.prog 9 #[.string src] w fun e w'=>∃ b,e=.returned (.tuple #[.pointer (some ⟨b,0,none⟩),.int .i64 0,.int .i64 0])/\Ng w w' b 0 S:=by
 go_enter Tryz.func9,Tryz.ntmps9
 go_wp2_with fail;refine (rM hw h).mono ?_;rintro e w1 ⟨p,rfl,σ,hT,sc,k1⟩;have c0:=sc.c0;have c1:=sc.c1;have c2:=sc.c2;have c3:=sc.c3;go_wp2_with fail;go_ret3
 exact ⟨w1.heap.size,rfl,σ,hT,by simpa using sc.copy rfl,k1.trans (Kp.alloc _ _ _)⟩
theorem IU {E k a:Nat} {src:ByteArray} {w:World} (hw:Nm w) (ha:w.cell? ⟨a,0,none⟩=some (.string src)) (h:∀ W:World,Nm W->W.cell? ⟨a,0,none⟩=some (.string src)->Calls Tryz.prog 34 #[.pointer (some ⟨a,0,none⟩)] W fun e w'=>e=gN E k/\Kp [] W w') :
  Calls Tryz.prog 33 #[.func (.func 34) #[] #[.pointer (some ⟨a,0,none⟩)]] w fun e w'=>e=.returned (.tuple #[.pointer none,.int .i64 (E:Int),.int .i64 (k:Int)])/\Kp [] w w':=by
 have hmf:∀ (fn:Fn) (first cap:Array Value) (w:World),(Instr.makeFunc fn first cap).run Tryz.prog w=.ok (.func fn first cap) w:=fun _ _ _ _=>rfl;go_enter_defers Tryz.func33,Tryz.ntmps33
 go_wp2_with fail;obtain ⟨W,hW⟩:∃ W:World,W=((w.alloc (.cells #[.pointer none] 53)).alloc (.cells #[.int .i64 0] 24)).alloc (.cells #[.int .i64 0] 3):=⟨_,rfl⟩;have kW:Kp [] w W:=by rw [hW];exact (Kp.alloc _ _ _).trans ((Kp.alloc _ _ _).trans (Kp.alloc _ _ _))
 have zW:W.heap.size=w.heap.size+3:=by rw [hW];simp
 have a0:W.cell? ⟨w.heap.size,0,none⟩=some (.pointer none):=by rw [hW];simp [go_sem]
 have a1:W.cell? ⟨w.heap.size+1,0,none⟩=some (.int .i64 0):=by rw [hW];simp [go_sem]
 have a2:W.cell? ⟨w.heap.size+1+1,0,none⟩=some (.int .i64 0):=by rw [hW];simp [go_sem]
 have f0:W.frozen? ⟨w.heap.size,0,none⟩=false:=by rw [hW];simp [go_sem]
 have f1:W.frozen? ⟨w.heap.size+1,0,none⟩=false:=by rw [hW];simp [go_sem]
 have f2:W.frozen? ⟨w.heap.size+1+1,0,none⟩=false:=by rw [hW];simp [go_sem]
 rw [<-hW];clear hW;refine (h W (hw.aj kW (by simp)) ((kW.cell (p:=⟨a,0,none⟩) (World.block_lt_of_cell? _ _ ha) (by simp)).trans ha)).mono ?_;rintro e w1 ⟨rfl,k1⟩;have b0:=(k1.cell (p:=⟨w.heap.size,0,none⟩) (by simp;omega) (by simp)).trans a0;have b1:=(k1.cell (p:=⟨w.heap.size+1,0,none⟩) (by simp;omega) (by simp)).trans a1;have b2:=(k1.cell (p:=⟨w.heap.size+1+1,0,none⟩) (by simp;omega) (by simp)).trans a2;have g0:=(k1.frozen (p:=⟨w.heap.size,0,none⟩) (by simp;omega) (by simp)).trans f0;have g1:=(k1.frozen (p:=⟨w.heap.size+1,0,none⟩) (by simp;omega) (by simp)).trans f1;have g2:=(k1.frozen (p:=⟨w.heap.size+1+1,0,none⟩) (by simp;omega) (by simp)).trans f2;clear a0 a1 a2 f0 f1 f2;go_wp2_with fail;refine leaves_cons (f:=49) (args:=#[.pointer (some ⟨w.heap.size,0,none⟩),.pointer (some ⟨w.heap.size+1,0,none⟩),.pointer (some ⟨w.heap.size+1+1,0,none⟩)]) (by simp) (by simp [go_sem]) ?_;refine (qV b0 b1 b2 g0 g1 g2 (by omega) (by omega) (by omega)).mono ?_
 rintro e u' w2 ⟨rfl,rfl,k2,d0,d1,d2⟩;have K2:=Kp.own (x:=w.heap.size) (Kp.own (x:=w.heap.size+1) (Kp.own (x:=w.heap.size+1+1) (S:=[w.heap.size+1,w.heap.size]) (((kW.trans k1).mono (by simp)).trans (k2.mono (by simp))) (by omega)) (by omega)) (by omega);simp [Leaves,settle,results,Tryz.results33,go_sem,d0,d1,d2];exact K2
theorem CX {E k a:Nat} {src:ByteArray} (h:Jl src E k) (W:World) (hW:Nm W) (ha:W.cell? ⟨a,0,none⟩=some (.string src)):Calls Tryz.prog 34 #[.pointer (some ⟨a,0,none⟩)] W fun e w'=>e=gN E k/\Kp [] W w':=by
 have H:=hid (h W hW);clear h;go_enter Tryz.func34,Tryz.ntmps34
 go_wp2_with fail;refine H.out.mono ?_;rintro e w1 ⟨rfl,k1⟩;go_wp2_with fail;exact ⟨rfl,rfl,k1⟩
theorem rN {E k:Nat} {src:ByteArray} {w:World} (hw:Nm w) (h:Jl src E k):Calls Tryz.prog 22 #[.string src] w fun e w'=>e=.returned (.tuple #[.pointer none,.int .i64 (E:Int),.int .i64 (k:Int)])/\Kp [] w w':=by
 have hmf:∀ (fn:Fn) (first cap:Array Value) (w:World),(Instr.makeFunc fn first cap).run Tryz.prog w=.ok (.func fn first cap) w:=fun _ _ _ _=>rfl;have k0:=Kp.alloc [] w (.cells #[.string src] 9);go_enter Tryz.func22,Tryz.ntmps22
 go_wp2_with fail;refine (IU (a:=w.heap.size) (src:=src) (hw.aj k0 (by simp)) (by simp) (CX h)).mono ?_;rintro e w1 ⟨rfl,k1⟩;go_wp2_with fail;go_ret3
 exact ⟨rfl,k0.trans k1⟩
theorem DM {E k:Nat} {src:ByteArray} {w:World} (hw:Nm w) (hE:E≠0) (h:Jl src E k):Calls Tryz.prog 9 #[.string src] w fun e w'=>e=.returned (.tuple #[.pointer none,.int .i64 (E:Int),.int .i64 (k:Int)])/\Kp [] w w':=by
 have hq:((E:Int) == 0)=false:=by rw [Nz];omega
 have HE:=hid hE;clear hE;go_enter Tryz.func9,Tryz.ntmps9
 go_wp2_with fail;refine (rN hw h).mono ?_;rintro e w1 ⟨rfl,k1⟩;go_wp2_with fail;go_ret3
 exact ⟨rfl,k1⟩
def CompO (w:World):Except rf fj->Ending->World->Prop
 | .error (E,k),e,w'=>e=.returned (.tuple #[.pointer none,.int .i64 (E:Int),.int .i64 (k:Int)])/\Kp [] w w'
 | .ok S,e,w'=>∃ b,e=.returned (.tuple #[.pointer (some ⟨b,0,none⟩),.int .i64 0,.int .i64 0])/\Ng w w' b 0 S
theorem iq (src:ByteArray) {w:World} (hw:Nm w):Calls Tryz.prog 9 #[.string src] w (CompO w (scrE src)):=by
 cases h:scrE src with
 | error q=>
  obtain ⟨E,k⟩:=q;refine (DM hw (JU h) (fun W hW=>?_)).mono fun e w' q=>q;have:=ME src hW;rw [h] at this;exact this
 | ok S=>
  refine (DL hw (fun W hW=>?_)).mono fun e w' q=>q;have:=ME src hW;rw [h] at this;exact this
