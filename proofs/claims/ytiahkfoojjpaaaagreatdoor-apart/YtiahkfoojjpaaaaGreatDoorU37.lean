import Derived.Test.YtiahkfoojjpaaaaGreatDoorU35
import Derived.Test.YtiahkfoojjpaaaaGreatDoorU36
set_option maxRecDepth 100000
set_option maxHeartbeats 16000000
set_option linter.all false
namespace Go.Proofs.YtiahkfoojjpaaaaGreatDoor
open Go.RowKit
theorem oc {W1:World} {lo n size:Nat} {e:TypeId} {xs:List Value} {u:Value} (h:W1.ownsRow lo e size u n xs):∃ ad cap,u=.slice ad n cap:=by
 rcases h.2 with ⟨h1,h2⟩ | ⟨g,cap,cur,h1,_⟩
 .exact ⟨none,0,by rw [h1,h2]⟩
 .exact ⟨_,_,h1⟩
section
variable {w w':World} {b k:Nat} {src:ByteArray}
theorem rG (x:Int) (hr:Cur w b src k) {v:Bool} (h:saw src k x=v) (n:Nat) :
  Calls Tryz.prog 137 #[.pointer (some ⟨b,0,none⟩),.int .u8 x] (w.drewN n) fun e w''=>e=.returned (.bool v)/\∃ m,w''=w.drewN m:=by
 subst h;exact Calls.quiet_of (MD x (hr.drewN n))
theorem Cur.set {k2:Nat} (h:Cur w b src k) (hk:k2<=src.size):Cur (w.setCell ⟨b,1,none⟩ (.int .i64 k2)) b src k2:=
 ⟨by simpa [World.setCell] using h.lt,hk,h.small,(aq _ (fun e=>by injection e with _ e _;omega)).trans h.c0,aw _ h.c1,fun i=>by simpa using h.free i⟩
theorem jl {x y:Int} (h:saw src k x=true) (hxy:x≠y):saw src k y=false:=by
 unfold saw at h ⊢;split at h
 .rename_i hk;rw [dif_pos hk];simp at h ⊢;rw [h];exact hxy
 .cases h
theorem Lg {G:Nat} (hr:Cur w b src k) (h:saw src k 38=true) :
  Calls Tryz.prog 165 #[.pointer (some ⟨b,0,none⟩),.int .i64 G] w fun e w'=>e=.returned (.tuple #[.int .i64 ((0:Nat):Int),.bool true])/\Cur w' b src (k+1)/\Mv b w w':=by
 have H:=hid (aY 38 hr h);clear h;go_enter Tryz.func165,Tryz.ntmps165
 go_wp2_with fail;refine H.out.mono ?_;rintro e w1 ⟨rfl,h1,m1⟩;go_wp2_with fail;go_ret2
 exact ⟨rfl,h1,m1⟩
theorem hole_no {G:Nat} (hr:Cur w b src k) (h:saw src k 38=false) (h2:saw src k 92=false) :
  Calls Tryz.prog 165 #[.pointer (some ⟨b,0,none⟩),.int .i64 G] w fun e w'=>e=.returned (.tuple #[.int .i64 0,.bool false])/\Cur w' b src k/\Mv b w w':=by
 have H:=hid (aY 38 hr h);have H2:=hid h2;clear h h2;go_enter Tryz.func165,Tryz.ntmps165
 go_wp2_with fail;refine H.out.mono ?_;rintro e w1 ⟨rfl,h1,m1⟩;have h1:Cur w1 b src k:=h1;have S:=hid (fun n=>rG 92 h1 H2.out n);go_wp2_with fail;go_quiet ((go_at_call 137;exact S.out _));go_wp2_with fail;go_ret2
 exact ⟨rfl,h1.drewN _,m1.trans (Mv.drewN _ _ _)⟩
theorem Dt {G d:Nat} (hr:Cur w b src k) (h:saw src k 92=true) (hk:k+1 < src.size) (hd:(src[k+1]).toNat=48+d) (h1d:1<=d) (hdG:d<=G) (hG:G<=9) :
  Calls Tryz.prog 165 #[.pointer (some ⟨b,0,none⟩),.int .i64 G] w fun e w'=>e=.returned (.tuple #[.int .i64 d,.bool true])/\Cur w' b src (k+2)/\Mv b w w':=by
 have h38:saw src k 38=false:=jl h (by decide);have H:=hid (aY 38 hr h38);have H2:=hid h;clear h h38;go_enter Tryz.func165,Tryz.ntmps165
 go_wp2_with fail;refine H.out.mono ?_;rintro e w1 ⟨rfl,h1,m1⟩;have h1:Cur w1 b src k:=h1;have S:=hid (fun n=>rG 92 h1 H2.out n);have c0:=h1.c0;have c1:=h1.c1;have hsm:=h1.small;obtain ⟨k1,hk1⟩:∃ k1:Nat,(k:Int)+1=(k1:Int):=⟨k+1,by omega⟩;have wk1:=aa k1 (by omega);have hne:((k1:Int) == (src.size:Int))=false:=by rw [Nz];omega
 go_wp2_with fail;go_quiet ((go_at_call 137;exact S.out _));have h2:=h1.drewN nq;have m2:=m1.trans (Mv.drewN b w1 nq);generalize w1.drewN nq=w2 at *;clear c0 c1 S h1 m1;have c0:=h2.c0;have c1:=h2.c1;have f1:=h2.free 1;have hkk:k1 < src.size:=by omega
 obtain ⟨y,hy⟩:∃ y:Nat,y=48+d:=⟨_,rfl⟩;have c5:(⟨src.data⟩:ByteArray)[k1].toNat=y:=by
  have e:k1=k+1:=by omega
  subst e;exact hd.trans hy.symm
 have ey:(y:Int) - 48=(d:Int):=by omega
 have wd:=aa d (by omega);have wy:=aa y (by omega);have d1:¬ ((d:Int) < 1):=by omega
 have d2:¬ ((G:Int) < (d:Int)):=by omega
 have HY:=hid hy;have HD:=hid hd;clear hd hy;obtain ⟨k2,hk2⟩:∃ k2:Nat,(k:Int)+2=(k2:Int):=⟨k+2,by omega⟩;have wk2:=aa k2 (by omega);go_wp2_with fail;go_quiet (fail);go_wp2_with fail;go_ret2
 have h3:=h2.drewN nq;have e2:k2=k+2:=by omega
 refine ⟨rfl,?_,(m2.trans (Mv.drewN b w2 nq)).trans (Mv.step b _ _)⟩;rw [<-e2];exact h3.set (by omega)
theorem Lf {G:Nat} (hr:Cur w b src k) (h:saw src k 92=true) (hk:k+1=src.size) :
  Calls Tryz.prog 165 #[.pointer (some ⟨b,0,none⟩),.int .i64 G] w fun e w'=>e=.returned (.tuple #[.int .i64 0,.bool false])/\Cur w' b src k/\Mv b w w':=by
 have h38:saw src k 38=false:=jl h (by decide);have H:=hid (aY 38 hr h38);have H2:=hid h;clear h h38;go_enter Tryz.func165,Tryz.ntmps165
 go_wp2_with fail;refine H.out.mono ?_;rintro e w1 ⟨rfl,h1,m1⟩;have h1:Cur w1 b src k:=h1;have S:=hid (fun n=>rG 92 h1 H2.out n);have c0:=h1.c0;have c1:=h1.c1;have hsm:=h1.small;obtain ⟨k1,hk1⟩:∃ k1:Nat,(k:Int)+1=(k1:Int):=⟨k+1,by omega⟩;have wk1:=aa k1 (by omega);have hne:((k1:Int) == (src.size:Int))=true:=by rw [beq_iff_eq];omega
 clear hk;go_wp2_with fail;go_quiet ((go_at_call 137;exact S.out _));go_wp2_with fail;go_ret2
 exact ⟨rfl,h1.drewN _,m1.trans (Mv.drewN _ _ _)⟩
theorem Le {G:Nat} (hr:Cur w b src k) (h:saw src k 92=true) (hk:k+1 < src.size) (hd:¬ (49<=(src[k+1]).toNat/\(src[k+1]).toNat<=48+G)) (hG:G<=9) :
  Calls Tryz.prog 165 #[.pointer (some ⟨b,0,none⟩),.int .i64 G] w fun e w'=>e=.returned (.tuple #[.int .i64 0,.bool false])/\Cur w' b src k/\Mv b w w':=by
 have h38:saw src k 38=false:=jl h (by decide);have H:=hid (aY 38 hr h38);have H2:=hid h;clear h h38;go_enter Tryz.func165,Tryz.ntmps165
 go_wp2_with fail;refine H.out.mono ?_;rintro e w1 ⟨rfl,h1,m1⟩;have h1:Cur w1 b src k:=h1;have S:=hid (fun n=>rG 92 h1 H2.out n);have c0:=h1.c0;have c1:=h1.c1;have hsm:=h1.small;obtain ⟨k1,hk1⟩:∃ k1:Nat,(k:Int)+1=(k1:Int):=⟨k+1,by omega⟩;have wk1:=aa k1 (by omega);have hne:((k1:Int) == (src.size:Int))=false:=by rw [Nz];omega
 go_wp2_with fail;go_quiet ((go_at_call 137;exact S.out _));have h2:=h1.drewN nq;have m2:=m1.trans (Mv.drewN b w1 nq);generalize w1.drewN nq=w2 at *;clear c0 c1 S h1 m1;have c0:=h2.c0;have c1:=h2.c1;have hkk:k1 < src.size:=by omega
 obtain ⟨y,hy⟩:∃ y:Nat,y=(src[k+1]).toNat:=⟨_,rfl⟩;have hy256:y < 256:=by rw [hy];exact Od _
 have c5:(⟨src.data⟩:ByteArray)[k1].toNat=y:=by
  have e:k1=k+1:=by omega
  subst e;exact hy.symm
 obtain ⟨d,hde⟩:∃ d:Int,(y:Int) - 48=d:=⟨_,rfl⟩;have wd:IntKind.i64.wrap d=d:=by rw [IntKind.wrap_i64];omega
 have wy:=aa y (by omega);rw [<-hy] at hd;by_cases d1:d < 1
 .clear hd hy;go_wp2_with fail;go_quiet (fail);go_wp2_with fail;go_ret2
  exact ⟨rfl,h2.drewN _,m2.trans (Mv.drewN _ _ _)⟩
 .have d2:(G:Int) < d:=by omega
  clear hd hy;go_wp2_with fail;go_quiet (fail);go_wp2_with fail;go_ret2
  exact ⟨rfl,h2.drewN _,m2.trans (Mv.drewN _ _ _)⟩
def HoleO (b:Nat) (src:ByteArray) (k:Nat) (w:World) (o:Option (Nat×Nat)) (e:Ending) (w':World):Prop:=
 match o with
 | some (l,g)=>e=.returned (.tuple #[.int .i64 g,.bool true])/\Cur w' b src l/\Mv b w w'
 | none=>e=.returned (.tuple #[.int .i64 0,.bool false])/\Cur w' b src k/\Mv b w w'
theorem hole_g {G:Nat} (hr:Cur w b src k) (hG:G<=9):Calls Tryz.prog 165 #[.pointer (some ⟨b,0,none⟩),.int .i64 G] w (HoleO b src k w (xo src G k)):=by
 unfold xo
 cases h38:saw src k 38
 .rw [Nr (by simp)]
  cases h92:saw src k 92
  .rw [Nr (by simp)];exact hole_no hr h38 h92
  .rw [Ny rfl];have hlt:=aK h92;by_cases hk:k+1 < src.size
   .rw [dif_pos hk];by_cases hd:49<=(src[k+1]'hk).toNat/\(src[k+1]'hk).toNat<=48+G
    .rw [Ny hd];exact Dt hr h92 hk (by omega) (by omega) (by omega) hG
    .rw [Nr hd];exact Le hr h92 hk hd hG
   .rw [dif_neg hk];exact Lf hr h92 (by omega)
 .rw [Ny rfl];exact Lg hr h38
theorem Lh {s:ByteArray} {G k l g:Nat} (h:xo s G k=some (l,g)):k < l/\l<=s.size/\g<=G:=by
 unfold xo at h;split at h
 .rename_i h38;have:=aK h38;injection h with h;injection h with h1 h2;omega
 .split at h
  .split at h
   .split at h
    .injection h with h;injection h with h1 h2;omega
    .cases h
   .cases h
  .cases h
abbrev lR (H:List (Nat×Nat)):List Value:=H.flatMap fun q:Nat×Nat=>[Value.int .i64 (q.1:Int),.int .i64 (q.2:Int)]
theorem Tryz.KY:(Tryz.prog.info? 211).map (fun i=>(i.zero,i.size,i.bytes))=some (some (.agg #[.int .i64 0,.int .i64 0]),2,16):=by kernel_rfl
theorem Tryz.szNew:(Tryz.prog.info? 87).map (·.size)=some 3:=by kernel_rfl
theorem Dv (H:List (Nat×Nat)) (a g:Nat):lR (H++[(a,g)])=lR H++[.int .i64 (a:Int),.int .i64 (g:Int)]:=by simp [lR]
theorem Kd {lo lo2 size n:Nat} {e:TypeId} {v:Value} {xs:List Value} (h:w.ownsRow lo e size v n xs) (hl:lo2<=lo):w.ownsRow lo2 e size v n xs:=by
 refine ⟨h.1,?_⟩;rcases h.2 with q | ⟨g,cap,cur,q1,q2,q3⟩
 .exact .inl q
 .exact .inr ⟨g,cap,cur,q1,Nx hl q2,q3⟩
def NewO (b:Nat) (src:ByteArray) (k:Nat) (w:World) (q:Nat×List UInt8×List (Nat×Nat)) (r:Ending) (w':World):Prop:=
 ∃ v,r=.returned (.agg #[.string (src.extract k (q.1 - 1)),.string (ba q.2.1),v])/\w'.ownsRow w.heap.size 211 2 v q.2.2.length (lR q.2.2)/\Cur w' b src q.1/\Mv b w w'
theorem G8 {G:Nat} (hre:qY w b src k) (hG:G<=9) :
  Calls Tryz.prog 140 #[.pointer (some ⟨b,0,none⟩),.int .i64 G] w (OutS (flt4 (newE src G (src.size+1) k [] [])) (NewO b src k w) b w):=by
 have hr:=hre.cur;have HC2:=hid hre.c2;clear hre;obtain ⟨R,hR⟩:∃ R,R=newE src G (src.size+1) k [] []:=⟨_,rfl⟩;rw [<-hR];have HRE:=hid hR;clear hR;have hsm:=hr.small;have hlt:=hr.lt;obtain ⟨i0,hi,hz0,hz1,hz2⟩:=info_parts Tryz.infoByte;have HI:=hid (And.intro hi (And.intro hz0 (And.intro hz1 hz2)));clear hi hz0 hz1 hz2;obtain ⟨j0,hi,hz0,hz1,hz2⟩:=info_parts Tryz.KY;have HJ:=hid (And.intro hi (And.intro hz0 (And.intro hz1 hz2)));clear hi hz0 hz1 hz2;have k1:=Kp.alloc [] w (.cells #[.string ⟨#[]⟩,.string ⟨#[]⟩,.slice none 0 0] 87);have BP:=Bl.alloc w [.string ⟨#[]⟩,.string ⟨#[]⟩,.slice none 0 0] 87;obtain ⟨p,hp⟩:∃ p,p=w.heap.size:=⟨_,rfl⟩;obtain ⟨wt,hwp⟩:∃ wt,wt=w.alloc (.cells #[.string ⟨#[]⟩,.string ⟨#[]⟩,.slice none 0 0] 87):=⟨_,rfl⟩;have hr2:=hr.aj k1 (by simp);have m2:Mv b w wt:=by rw [hwp];exact ⟨k1.mono (by simp),fun j _=>k1.cell (p:=⟨b,j,none⟩) hlt (by simp)⟩
 have hpb:p≠b:=by omega
 rw [<-hp,<-hwp] at BP;rw [<-hwp] at k1 hr2;have hpw:p < wt.heap.size:=BP.lt;have c1:=hr.c1;go_enter Tryz.func140,Tryz.ntmps140
 go_upto_region 1 with fail
 rw [<-hp,<-hwp];have HP:=hid hp;clear hp hwp c1;have c1:=hr2.c1;have hbs:=hid (Nw wt.heap.size);have B2:=BP;clear k1 hr BP;go_wp2_with fail;go_loopw [6,7] (fun v vh wr=>∃ a m acc hs,k<=a/\src.size+1<=a+m/\acc.length+hs.length+k<=a/\Cur wr b src a/\Hid (Mv b w wr)/\Hid (Bl wr p [.string ⟨#[]⟩,.string ⟨#[]⟩,.slice none 0 0])/\Hid (wr.ownsRow wt.heap.size 5 1 v acc.length (Lib.byteCells acc))/\Hid (wr.ownsRow wt.heap.size 211 2 vh hs.length (lR hs))/\Hid (∀ g,v.ownBlock=some g->vh.ownBlock≠some g)/\Hid (R=newE src G m a acc hs)/\Hid (wt.heap.size<=wr.heap.size)) (fun _ _ wr=>3000 - ia wr b)
 case atStart=>exact ⟨k,src.size+1,[],[],Nw _,by omega,by simp,hr2,hid m2,hid B2,hid ⟨rfl,.inl ⟨rfl,rfl⟩⟩,hid ⟨rfl,.inl ⟨rfl,rfl⟩⟩,hid (fun g hg=>by cases hg),HRE,hbs⟩
 case round=>
  clear hr2 m2 B2 HRE hbs c1;obtain ⟨a,m,acc,hs,hka,ham,hak,hrr,HM,HB,HO,HQ,HX,HN,HS⟩:=hrel;have HAT:=hid (aC hrr);have hle:=hrr.le
  match m,HN,ham with
  | 0,_,ham=>omega
  | m+1,HN,ham=>
  have hN:=HN.out;unfold newE at hN;clear HN;obtain ⟨A5,cp5,e5⟩:=oc HO.out;subst e5;obtain ⟨A6,cp6,e6⟩:=oc HQ.out;subst e6;have hbl:b < wt.heap.size:=by have:=HP.out;omega
  have gb:Hid (∀ g,(Value.slice A5 acc.length cp5).ownBlock=some g->wt.heap.size<=g):=hid (fun g hg=>(az HO.out hg).1);have gh:Hid (∀ g,(Value.slice A6 hs.length cp6).ownBlock=some g->wt.heap.size<=g):=hid (fun g hg=>(az HQ.out hg).1);by_cases hst:a < src.size/\saw src a 10=false
  case neg=>
   rw [Nr hst] at hN;have HN:=hid hN;have hlv:leaves src a=true:=by
    unfold leaves;by_cases e:a=src.size
    .simp [e]
    .cases h10:saw src a 10
     .exact absurd ⟨by omega,h10⟩ hst
     .simp
   have SF:=hid (AV ⟨hrr,(HM.out.same 2 (by omega)).trans HC2.out⟩ hlv);clear hN hlv hst;go_wp2_with fail;refine SF.out.mono ?_;rintro r w1 ⟨rfl,m1⟩;go_wp2_with fail;refine ⟨rfl,?_⟩;rw [HN.out];exact ⟨rfl,HM.out.trans m1⟩
  obtain ⟨hk,h10⟩:=hst;rw [Ny ⟨hk,h10⟩] at hN
  cases h47:saw src a 47
  case true=>
   rw [h47,Ny rfl] at hN;have HN:=hid hN;clear hN;have SH:=hid (gO hrr hk h10 h47);clear h10 h47;go_wp2_with fail;refine SH.out.mono ?_;rintro r w1 ⟨rfl,h1,m1⟩;have B1:=hid (HB.out.aj m1.kp (by simpa using hpb));have O1:=ag HO.out (fun g hg=>m1.kp.block g (az HO.out hg).2 (by have:=gb.out g hg;simp;omega));have O2:=ag O1 (fun g hg=>(Kp.drew [] w1).block g (az O1 hg).2 (by simp));have Q1:=ag HQ.out (fun g hg=>m1.kp.block g (az HQ.out hg).2 (by have:=gh.out g hg;simp;omega));have Q2:=hid (ag Q1 (fun g hg=>(Kp.drew [] w1).block g (az Q1 hg).2 (by simp)));have hcv:=fG O2;have B2:=hid (B1.out.aj (Kp.drew [] w1) (by simp));have M2:=hid ((HM.out.trans m1).trans (Mv.drew b w1));have h2:=h1.drew;have hkl:a<=src.size:=by omega
   have wd:=aa a (by omega);have e1:((a+1:Nat):Int) - 1=(a:Int):=by omega
   have hS:(fun w':World=>w'.cell? ⟨b,0,none⟩=some (.string src)/\w'.cell? ⟨b,1,none⟩=some (.int .i64 ((a+1:Nat):Int))/\(convert 49 9 (.slice A5 acc.length cp5)).run Tryz.prog w'=.ok (.string (ba acc)) w') w1.drew:=⟨h2.c0,h2.c1,hcv⟩;obtain ⟨a1,ha1⟩:∃ a1,a1=a+1:=⟨_,rfl⟩;rw [<-ha1] at hS e1 h2;have HA1:=hid ha1;clear hcv O1 O2 HO h1 SH gb Q1 HX;go_upto_region 9 with fail
   refine aA (fun w':World=>w'.cell? ⟨b,0,none⟩=some (.string src)/\w'.cell? ⟨b,1,none⟩=some (.int .i64 (a1:Int))/\(convert 49 9 (.slice A5 acc.length cp5)).run Tryz.prog w'=.ok (.string (ba acc)) w') 18 (by kernel_rfl) ?_;clear ha1;obtain ⟨w2,hw2⟩:∃ w2,w2=w1.drew:=⟨_,rfl⟩;rw [<-hw2] at hS B2 M2 h2 Q2 ⊢;clear hw2 B1;iterate 18 (refine tkn (v:=?_) rfl (by kernel_rfl) (fun _ _ _ h=>h) ⟨rfl,fun w hSw=>?_⟩ hS ?_;rotate_left;(focus ((try dsimp only at hSw);go_simp;(try with_reducible rfl)));(try simp only [Nn,Nk,Nj,Act.put,Ni,Np,Nq]))
   refine ai (i:=18) (by kernel_rfl) rfl (fun K hK=>?_);have p0:=B2.out.at_ 0 _ rfl;have p1:=B2.out.at_ 1 _ rfl;have p2:=B2.out.at_ 2 _ rfl;have q0:=B2.out.free 0;have q1:=B2.out.free 1;have q2:=B2.out.free 2;go_simp;refine hK.out _ _ (.inl rfl) ?_;clear hK K p0 p1 p2 q0 q1 q2 hS;refine ax (by kernel_rfl) ?_ _;have B3:Bl (((w2.setCell ⟨p,0,none⟩ (.string (src.extract k a))).setCell ⟨p,1,none⟩ (.string (ba acc))).setCell ⟨p,2,none⟩ (.slice A6 hs.length cp6)) p [.string (src.extract k a),.string (ba acc),.slice A6 hs.length cp6]:=((B2.out.set 0 _ (by simp)).set 1 _ (by simp)).set 2 _ (by simp);have ks:Kp [p] w2 (((w2.setCell ⟨p,0,none⟩ (.string (src.extract k a))).setCell ⟨p,1,none⟩ (.string (ba acc))).setCell ⟨p,2,none⟩ (.slice A6 hs.length cp6)):=(Kp.setCell _ _ (by simp)).trans ((Kp.setCell _ _ (by simp)).trans (Kp.setCell _ _ (by simp)));obtain ⟨w3,hw3⟩:∃ w3,w3=((w2.setCell ⟨p,0,none⟩ (.string (src.extract k a))).setCell ⟨p,1,none⟩ (.string (ba acc))).setCell ⟨p,2,none⟩ (.slice A6 hs.length cp6):=⟨_,rfl⟩
   rw [<-hw3] at B3 ks ⊢;clear hw3;have p0:=B3.at_ 0 _ rfl;have p1:=B3.at_ 1 _ rfl;have p2:=B3.at_ 2 _ rfl;go_wp2_with fail;refine bodyPost_ret (eC (p:=4) (ty:=87) (by rw [Tryz.results140]) _ _ p 0 rfl _ _ B3.range Tryz.underlying87 rfl (by rw [Tryz.szNew];rfl)) rfl ?_;rw [HN.out];refine ⟨.slice A6 hs.length cp6,rfl,?_,?_,M2.out.past ks hlt (fun q hq=>by simp at hq;have:=HP.out;omega)⟩
   .exact Kd (ag Q2.out (fun g hg=>ks.block g (az Q2.out hg).2 (by rw [NI];have:=gh.out g hg;omega))) (by have:=HP.out;omega)
   .show Cur w3 b src (a+1);rw [<-HA1.out];exact h2.aj ks (by simpa using Ne.symm hpb)
  case false=>
   rw [h47,Nr (by simp)] at hN;have SH:=hid (gO hrr hk h10 h47);clear h10 h47;go_wp2_with fail;refine SH.out.mono ?_;rintro r w1 ⟨rfl,h1,m1⟩;have h1:Cur w1 b src a:=h1;have HH:=hid (hole_g (G:=G) h1 hG)
   cases hh:xo src G a with
   | some q=>
    obtain ⟨l,d⟩:=q;have hll:=Lh hh;rw [hh] at HH hN;replace hN:R=newE src G m l acc (hs++[(acc.length,d)]):=hN;have HN:=hid hN;clear hN hh;go_wp2_with fail;refine HH.out.mono ?_;rintro r w3 ⟨rfl,h3,m2⟩;have h3:Cur w3 b src l:=h3;have m12:=m1.trans m2;have HO3:=hid (ag HO.out (fun g hg=>m12.kp.block g (az HO.out hg).2 (by have:=gb.out g hg;simp;omega)));have HQ3:=hid (ag HQ.out (fun g hg=>m12.kp.block g (az HQ.out hg).2 (by have:=gh.out g hg;simp;omega)));have HB2:=hid (HB.out.aj m12.kp (by simpa using hpb));have M13:=hid m12;have hbs3:Hid (wt.heap.size<=w3.heap.size):=hid (Nx HS.out m12.kp.size);clear m12 m1 m2 h1;go_wp2_with (at_builtin;refine dh rfl _ _ 85 rfl wt.heap.size 211 j0 (.agg #[.int .i64 0,.int .i64 0]) 2 16 Tryz.underlying85 HJ.out.1 HJ.out.2.1 HJ.out.2.2.1 HJ.out.2.2.2 rfl (by decide) (.slice A6 hs.length cp6) hs.length (lR hs) rfl (ag HQ3.out (fun p hp=>(Kp.alloc [] w3 _).block p (az HQ3.out hp).2 (by simp))) ⟨w3.heap.size,0,none⟩ 1 1 [.int .i64 (acc.length:Int),.int .i64 (d:Int)] rfl rfl (fun j u hu=>by rw [Addr.add_mid,NJ];exact (Bl.alloc w3 [.int .i64 (acc.length:Int),.int .i64 (d:Int)] 211).at_ j u hu) (fun u hu=>by simp at hu;rcases hu with rfl | rfl <;> rfl) (by unfold maxLen;omega) (by omega) (Nx hbs3.out (Kp.alloc [] w3 _).size) (by omega) ?_;intro g4 cap4 w4 ho4 hg4 hor4)
    have ka:=Kp.alloc [] w3 (.cells #[.int .i64 (acc.length:Int),.int .i64 (d:Int)] 211);have kg:Kp (Value.slice A6 hs.length cp6).ownBlock.toList w3 w4:=(ka.mono (by simp)).trans (aR (S:=(Value.slice A6 hs.length cp6).ownBlock.toList) hg4 (fun q hq=>by rw [hq];simp));have gm:∀ q,q∈(Value.slice A6 hs.length cp6).ownBlock.toList->wt.heap.size<=q:=fun q hq=>gh.out q (by simpa using hq);have hbw:wt.heap.size<=w4.heap.size:=Nx hbs3.out kg.size;have hww:w.heap.size<=wt.heap.size:=by have:=HP.out;omega
    have h4:=h3.aj kg (fun q=>by have:=gm b q;omega);have P4:Hid (Bl w4 p [.string ⟨#[]⟩,.string ⟨#[]⟩,.slice none 0 0]):=hid (HB2.out.aj kg (fun q=>by have:=gm p q;omega));have M4:Hid (Mv b w w4):=hid ((HM.out.trans M13.out).past kg hlt (fun q hq=>by have:=gm q hq;omega))
    have Q4:Hid (w4.ownsRow wt.heap.size 211 2 (.slice (some ⟨g4,0,none⟩) (hs.length+1) cap4) (hs++[(acc.length,d)]).length (lR (hs++[(acc.length,d)]))):=hid (by
     rw [Dv,Nu]
     exact ho4)
    have O4:Hid (w4.ownsRow wt.heap.size 5 1 (.slice A5 acc.length cp5) acc.length (Lib.byteCells acc)):=hid (ag HO3.out (fun g hg=>kg.block g (az HO3.out hg).2 (fun q=>HX.out g hg (by simpa using q))))
    have X4:Hid (∀ g,(Value.slice A5 acc.length cp5).ownBlock=some g->(Value.slice (some ⟨g4,0,none⟩) (hs.length+1) cap4).ownBlock≠some g):=hid (fun g hg q=>by
     injection q with q;rcases hor4 with r | r
     .exact HX.out g hg (by rw [r];exact congrArg some q)
     .have:=(az HO3.out hg).2;have r2:=Nx ka.size r;have q:g4=g:=q
      omega)
    have HCA:=hid (aC h4);go_round
    case rel=>exact ⟨l,m,acc,_,by omega,by omega,by simp;omega,h4,M4,P4,O4,Q4,X4,HN,hid hbw⟩
    case measure=>rw [HCA.out,HAT.out];omega
   | none=>
    rw [hh] at HH hN;go_wp2_with fail;refine HH.out.mono ?_;rintro r w2 ⟨rfl,h2,m2⟩;have m1:=m1.trans m2;clear m2 h1 hh;have PT:=hid (Bn escN ⟨h2,((HM.out.trans m1).same 2 (by omega)).trans HC2.out⟩ hk);unfold escN at PT
    cases hp:lP src escN a with
    | error pl=>
     rw [hp] at hN;unfold escN at hp;rw [hp] at PT;have HN:=hid hN;clear hN hp;go_wp2_with fail;refine PT.out.mono ?_;rintro r w3 ⟨rfl,m3⟩;go_wp2_with fail;refine ⟨rfl,?_⟩;rw [HN.out];exact ⟨rfl,HM.out.trans (m1.trans m3)⟩
    | ok q=>
    obtain ⟨l,x⟩:=q;have hll:=fS hp;rw [hp] at hN;unfold escN at hp;rw [hp] at PT;replace hN:R=newE src G m l (acc++[x]) hs:=hN;have HN:=hid hN;clear hN hp;go_wp2_with fail;refine PT.out.mono ?_;rintro r w3 ⟨rfl,h3,m2⟩;have h3:Cur w3 b src l:=h3;have m12:=m1.trans m2;obtain ⟨y,hy⟩:∃ y:Nat,y=x.toNat:=⟨_,rfl⟩;rw [show ((l,x):Nat×UInt8).2.toNat=y from hy.symm];have HY:=hid hy;have HO3:=hid (ag HO.out (fun g hg=>m12.kp.block g (az HO.out hg).2 (by have:=gb.out g hg;simp;omega)));have HQ3:=hid (ag HQ.out (fun g hg=>m12.kp.block g (az HQ.out hg).2 (by have:=gh.out g hg;simp;omega)));have HB2:=hid (HB.out.aj m12.kp (by simpa using hpb));have hsz:acc.length<=2000:=by omega
    have M13:=hid m12;have hbs3:Hid (wt.heap.size<=w3.heap.size):=hid (Nx HS.out m12.kp.size);clear hy m12 m1 m2 h2;go_wp2_with (at_builtin;refine dh rfl _ _ 49 rfl wt.heap.size 5 i0 (.int .u8 0) 1 1 Tryz.underlying49 HI.out.1 HI.out.2.1 HI.out.2.2.1 HI.out.2.2.2 rfl (by decide) (.slice A5 acc.length cp5) acc.length (Lib.byteCells acc) rfl (ag HO3.out (fun p hp=>(Kp.alloc [] w3 _).block p (az HO3.out hp).2 (by simp))) ⟨w3.heap.size,0,none⟩ 1 1 [.int .u8 y] rfl rfl (fun j u hu=>by rw [Addr.add_mid,NJ];exact (Bl.alloc w3 [.int .u8 y] 5).at_ j u hu) (fun u hu=>by simp at hu;subst hu;rfl) (by unfold maxLen;omega) (by omega) (Nx hbs3.out (Kp.alloc [] w3 _).size) (by omega) ?_;intro g4 cap4 w4 ho4 hg4 hor4)
    have ka:=Kp.alloc [] w3 (.cells #[.int .u8 y] 5);have kg:Kp (Value.slice A5 acc.length cp5).ownBlock.toList w3 w4:=(ka.mono (by simp)).trans (aR (S:=(Value.slice A5 acc.length cp5).ownBlock.toList) hg4 (fun q hq=>by rw [hq];simp));have gm:∀ q,q∈(Value.slice A5 acc.length cp5).ownBlock.toList->wt.heap.size<=q:=fun q hq=>gb.out q (by simpa using hq);have hbw:wt.heap.size<=w4.heap.size:=Nx hbs3.out kg.size;have hww:w.heap.size<=wt.heap.size:=by have:=HP.out;omega
    have h4:=h3.aj kg (fun q=>by have:=gm b q;omega);have P4:Hid (Bl w4 p [.string ⟨#[]⟩,.string ⟨#[]⟩,.slice none 0 0]):=hid (HB2.out.aj kg (fun q=>by have:=gm p q;omega));have M4:Hid (Mv b w w4):=hid ((HM.out.trans M13.out).past kg hlt (fun q hq=>by have:=gm q hq;omega))
    have O4:Hid (w4.ownsRow wt.heap.size 5 1 (.slice (some ⟨g4,0,none⟩) (acc.length+1) cap4) (acc++[x]).length (Lib.byteCells (acc++[x]))):=hid (by
     have e1:Lib.byteCells (acc++[x])=Lib.byteCells acc++[.int .u8 y]:=by rw [HY.out];simp [Lib.byteCells]
     rw [e1,Nu]
     exact ho4)
    have Q4:Hid (w4.ownsRow wt.heap.size 211 2 (.slice A6 hs.length cp6) hs.length (lR hs)):=hid (ag HQ3.out (fun g hg=>kg.block g (az HQ3.out hg).2 (fun q=>HX.out g (by simpa using q) hg)))
    have X4:Hid (∀ g,(Value.slice (some ⟨g4,0,none⟩) (acc.length+1) cap4).ownBlock=some g->(Value.slice A6 hs.length cp6).ownBlock≠some g):=hid (fun g q hg=>by
     injection q with q;rcases hor4 with r | r
     .exact HX.out g (by rw [r];exact congrArg some q) hg
     .have:=(az HQ3.out hg).2;have r2:=Nx ka.size r;have q:g4=g:=q
      omega)
    have HCA:=hid (aC h4);go_round
    case rel=>exact ⟨l,m,acc++[x],hs,by omega,by omega,by simp;omega,h4,M4,P4,O4,Q4,X4,HN,hid hbw⟩
    case measure=>rw [HCA.out,HAT.out];omega
end
def AdrS.A:AdrS->Adr
 | .num n=>.num n
 | .last=>.last
 | .pat p=>.pat p.Q p.txt
def qW (fs:List (Nat×Obj)) (v:Value) (H:List (Nat×Nat)):Prop:=
 ∃ A hc,v=.slice A H.length hc/\(H=[]\/∃ hb cells,A=some ⟨hb,0,none⟩/\(hb,Obj.cells cells 211 (0,0))∈fs/\cells.toList.take (H.length * 2)=lR H)
def PtnV (fs:List (Nat×Obj)) (v t:Value) (p:Ptn):Prop:=∃ pb g o1 o2,v=.pointer (some ⟨pb,0,none⟩)/\t=.string p.txt/\(pb,o1)∈fs/\(g,o2)∈fs/\D9 p.Q pb g o1 o2
def PatV (fs:List (Nat×Obj)) (cv:List Value):Option Ptn->Prop
 | none=>cv[11]? = some (.pointer none)/\cv[12]? = some (.string noB)
 | some p=>∃ v t,cv[11]? = some v/\cv[12]? = some t/\PtnV fs v t p
structure fU (fs:List (Nat×Obj)) (cv:List Value) (c:aV):Prop where
 c4:cv[4]? = some (.string c.label)
 c5:cv[5]? = some (.int .i64 c.goal)
 c6:cv[6]? = some (.string c.name)
 c7:cv[7]? = some (.int .i64 c.file)
 c8:cv[8]? = some (.int .i64 c.status)
 c9:cv[9]? = some (.string c.text.src)
 c10:cv[10]? = some (.string (ba c.text.plain))
 c11:PatV fs cv c.pat
 c13:cv[13]? = some (.string c.new.src)
 c14:cv[14]? = some (.string (ba c.new.plain))
 c15:∃ v,cv[15]? = some v/\qW fs v c.dm
 c16:cv[16]? = some (.bool c.all)
 c17:cv[17]? = some (.int .i64 c.number)
 c18:cv[18]? = some (.bool c.print)
 c19:cv[19]? = some (.string c.jd.src)
 c20:cv[20]? = some (.string (ba c.jd.plain))
 c21:cv[21]? = some (.string c.yto.src)
 c22:cv[22]? = some (.string (ba c.yto.plain))
structure pL (fs:List (Nat×Obj)) (cv:List Value) (c:aV):Prop where
 c0:∃ v,cv[0]? = some v/\AD fs v (c.dV.map AdrS.A)
 c1:cv[1]? = some (.int .i64 c.range)
 c2:cv[2]? = some (.bool c.neg)
 c3:cv[3]? = some (.int .u8 c.what)
 rest:fU fs cv c
structure jc (σ:Sst) (r:RdS):Prop where
 len:σ.cs.length=r.aG.length
 cs:∀ (i:Nat) (cv:List Value) (c:aV),σ.cs[i]? = some cv->r.aG[i]? = some c->pL σ.fs cv c
 nm:NmR σ r.names
 rg:σ.ranges=r.ranges
 bs:σ.bs=r.blocks
 ls:σ.ls=r.labels
 gs:σ.gs=r.wanted
section
variable {fs fs':List (Nat×Obj)} {cv cv':List Value} {c:aV}
theorem qW.mono {v:Value} {H:List (Nat×Nat)} (h:qW fs v H) (hf:∀ f∈fs,f∈fs'):qW fs' v H:=by
 obtain ⟨A,hc,e,h⟩:=h;refine ⟨A,hc,e,h.imp_right ?_⟩;rintro ⟨hb,cells,e1,h1,h2⟩;exact ⟨hb,cells,e1,hf _ h1,h2⟩
theorem PatV.mono {p:Option Ptn} (h:PatV fs cv p) (hf:∀ f∈fs,f∈fs'):PatV fs' cv p:=by
 cases p with
 | none=>exact h
 | some p=>
  obtain ⟨v,t,e1,e2,pb,g,o1,o2,e3,e4,h1,h2,h3⟩:=h;exact ⟨v,t,e1,e2,pb,g,o1,o2,e3,e4,hf _ h1,hf _ h2,h3⟩
theorem fU.mono (h:fU fs cv c) (hf:∀ f∈fs,f∈fs'):fU fs' cv c:=
 ⟨h.c4,h.c5,h.c6,h.c7,h.c8,h.c9,h.c10,h.c11.mono hf,h.c13,h.c14,h.c15.imp fun _ q=>⟨q.1,q.2.mono hf⟩,h.c16,h.c17,h.c18,h.c19,h.c20,h.c21,h.c22⟩
theorem Nh.mono {A:Adr} {v:List Value} (h:Nh fs A v) (hf:∀ f∈fs,f∈fs'):Nh fs' A v:=by
 cases A with
 | num x=>exact h
 | last=>exact h
 | pat Q txt=>
  obtain ⟨pb,g,o1,o2,e,h1,h2,h3⟩:=h;exact ⟨pb,g,o1,o2,e,hf _ h1,hf _ h2,h3⟩
theorem AD.mono {v:Value} {L:List Adr} (h:AD fs v L) (hf:∀ f∈fs,f∈fs'):AD fs' v L:=by
 rcases h with h | ⟨p,c,cells,e,h1,h2⟩
 .exact .inl h
 .refine .inr ⟨p,c,cells,e,hf _ h1,fun i A hA=>?_⟩;obtain ⟨va,q1,q2⟩:=h2 i A hA;exact ⟨va,q1.mono hf,q2⟩
theorem pL.mono (h:pL fs cv c) (hf:∀ f∈fs,f∈fs'):pL fs' cv c:=
 ⟨h.c0.imp fun _ q=>⟨q.1,q.2.mono hf⟩,h.c1,h.c2,h.c3,h.rest.mono hf⟩
theorem dq (hz:Cz cv) (L:List AdrS) (r:Nat) (n:Bool) (x:Nat):fU fs cv (du L r n x):=by
 have q:∀ j,cv[4+j]? = (cv.drop 4)[j]?:=fun j=>hz.at_ j;unfold Cz at hz;refine ⟨?_,?_,?_,?_,?_,?_,?_,⟨?_,?_⟩,?_,?_,⟨.slice none 0 0,?_,none,0,rfl,.inl rfl⟩,?_,?_,?_,?_,?_,?_,?_⟩
 .exact (q 0).trans (by rw [hz];rfl)
 .exact (q 1).trans (by rw [hz];rfl)
 .exact (q 2).trans (by rw [hz];rfl)
 .exact (q 3).trans (by rw [hz];rfl)
 .exact (q 4).trans (by rw [hz];rfl)
 .exact (q 5).trans (by rw [hz];rfl)
 .exact (q 6).trans (by rw [hz];rfl)
 .exact (q 7).trans (by rw [hz];rfl)
 .exact (q 8).trans (by rw [hz];rfl)
 .exact (q 9).trans (by rw [hz];rfl)
 .exact (q 10).trans (by rw [hz];rfl)
 .exact (q 11).trans (by rw [hz];rfl)
 .exact (q 12).trans (by rw [hz];rfl)
 .exact (q 13).trans (by rw [hz];rfl)
 .exact (q 14).trans (by rw [hz];rfl)
 .exact (q 15).trans (by rw [hz];rfl)
 .exact (q 16).trans (by rw [hz];rfl)
 .exact (q 17).trans (by rw [hz];rfl)
 .exact (q 18).trans (by rw [hz];rfl)
end
theorem jc.mono {σ:Sst} {r:RdS} (h:jc σ r) {fs:List (Nat×Obj)} (hf:∀ f∈σ.fs,f∈fs):jc { σ with fs:=fs } r:=
 ⟨h.len,fun i cv c h1 h2=>(h.cs i cv c h1 h2).mono hf,⟨h.nm.ns,h.nm.nm⟩,h.rg,h.bs,h.ls,h.gs⟩
structure Mp (σ:Sst) (r:RdS):Prop where
 len:σ.cs.length=r.aG.length
 nm:NmR σ r.names
 bs:σ.bs=r.blocks
 ls:σ.ls=r.labels
 gs:σ.gs=r.wanted
structure Nf (σ σ':Sst):Prop where
 qt:σ'.quiet=σ.quiet
 cl:σ'.cs.length=σ.cs.length
 fx:∀ f∈σ.fs,f∈σ'.fs
theorem Nf.Fy {σ:Sst}:Nf σ σ:=⟨rfl,rfl,fun _ h=>h⟩
def OperR (w0:World) (b cb:Nat) (src:ByteArray) (σ:Sst) (cv:List Value) (r:RdS) (q:Nat×RdS×aV) (w':World):Prop:=
 ∃ σ' cv',Sr w0 w' b src q.1 σ'/\Bl w' cb cv'/\Cv cv'/\Sr.Far w0 b σ' cb/\cv'.take 4=cv.take 4/\fU σ'.fs cv' q.2.2/\(jc σ r->jc σ' q.2.1)/\Nf σ σ'
def gK (w0:World) (f b:Nat) (src:ByteArray) (k:Nat) (σ:Sst) (r:RdS) (R:OpE):Prop:=
 ∀ w cb cv,Sr w0 w b src k σ->Bl w cb cv->Cv cv->Cz cv->Sr.Far w0 b σ cb->Small σ 2000 ->
  Calls Tryz.prog f #[.pointer (some ⟨b,0,none⟩),.pointer (some ⟨cb,0,none⟩)] w (OpO R w0 (OperR w0 b cb src σ cv r))
section
variable {w0 w:World} {b k:Nat} {src:ByteArray} {σ:Sst}
theorem GQ {n e pl:Nat} {x:ByteArray} (hd:(isW src (blk src k)=true/\wdN src (blk src (blk src k)) n (blk src (blk src k))=some e/\src.extract (blk src (blk src k)) e=x)\/(isW src (blk src k)=false/\e=blk src k/\x=⟨#[]⟩)) (hpl:pl+x.size=e) (he:e<=2000) (hcs:σ.cs.length<=2000):Cs w0 95 b src k e σ (Jp x pl):=by
 intro w cb cv hs hb hl hz hf hsl;have hgs:=hsl.gs;have hne:cb≠b:=fun e=>hf.bk 0 (by rw [e];rfl);obtain ⟨A4,c4',ev4,_,_⟩:=aP hs.r.o4;obtain ⟨A,c',ev,_,_⟩:=aP hs.r.o11;obtain ⟨i0,hi,hz0,hz1,hz2⟩:=info_parts Tryz.La;have HI:=hid (And.intro hi (And.intro hz0 (And.intro hz1 hz2)));clear hi hz0 hz1 hz2;rcases hd with ⟨hw,h,hx⟩ | ⟨hw,he2,hxe⟩
 case' inl=>
  have H:=hid h;have HX:=hid hx;clear h hx;go_enter Tryz.func95,Tryz.ntmps95
  go_wp2_with fail;refine (dH hs.cur).mono ?_;rintro r w1 ⟨rfl,h1,m1⟩;go_wp2_with fail;refine (dY h1 hw).mono ?_;rintro r w2 ⟨rfl,h2,m2⟩;go_wp2_with fail;refine (AF h2 H.out).mono ?_;rintro r w3 ⟨rfl,h3,m3⟩;rw [HX.out];have m13:=m1.trans (m2.trans m3);have s1:=hs.move m13 h3;have b1:=hb.aj m13.kp (by simpa using hne);have e4:=b1.at_ 4 _ (Nv (show 4 < cv.length by rw [hl.len];omega));have f4:=b1.free 4;clear hs hb m1 h1 m2 h2 m3 h3 m13 H HX;go_upto_region 3 with fail
  have k2:Kp [cb] w3 (w3.setCell ⟨cb,4,none⟩ (.string x)):=Kp.setCell _ _ (by simp);have s2:=s1.other k2 (fun y hy=>by simp at hy;rw [hy];exact hf);have b2:=b1.set 4 (.string x) (by rw [hl.len];omega);have l2:Cv (cv.set 4 (.string x)):=hl.set 4 rfl;obtain ⟨w4,hw4⟩:∃ w4,w4=w3.setCell ⟨cb,4,none⟩ (.string x):=⟨_,rfl⟩;rw [<-hw4] at s2 b2 ⊢;clear hw4 k2 s1 b1 e4 f4 w3
 case' inr=>
  have HE:=hid he2;clear he2;go_enter Tryz.func95,Tryz.ntmps95
  go_wp2_with fail;refine (dH hs.cur).mono ?_;rintro r w1 ⟨rfl,h1,m1⟩;go_wp2_with fail;refine (dY h1 hw).mono ?_;rintro r w3 ⟨rfl,h3,m3⟩;have z4:cv[4]? = some (.string x):=by rw [hxe,show 4=4+0 from rfl,hz.at_,hz];rfl
  have hset:cv.set 4 (.string x)=cv:=by
   apply List.ext_getElem?;intro j;by_cases h4:j=4
   .subst h4;rw [NK (by rw [hl.len];omega),z4]
   .rw [NL (Ne.symm h4)]
  rw [<-HE.out] at h3;have m13:=m1.trans m3;have s2:=hs.move m13 h3;have b2:Bl w3 cb (cv.set 4 (.string x)):=by rw [hset];exact hb.aj m13.kp (by simpa using hne)
  clear hs hb m1 h1 m3 h3 m13 hset hxe z4 hw;go_upto_region 3 with fail
  have l2:Cv (cv.set 4 (.string x)):=hl.set 4 rfl;obtain ⟨w4,hw4⟩:∃ w4,w4=w3:=⟨_,rfl⟩;rw [<-hw4] at s2 b2 ⊢;clear hw4 w3
 all_goals
  refine aA (fun w':World=>w'.cell? ⟨b,11,none⟩=some σ.vg/\w'.cell? ⟨b,4,none⟩=some (.slice A4 σ.cs.length c4')/\w'.cell? ⟨b,1,none⟩=some (.int .i64 (e:Int))/\w'.cell? ⟨cb,4,none⟩=some (.string x)) 27 (by kernel_rfl) ?_;have s3:=s2.aj (Kp.drew [] w4);have b3:=b2.aj (Kp.drew [] w4) (by simp);obtain ⟨w5,hw5⟩:∃ w5,w5=w4.drew:=⟨_,rfl⟩;rw [<-hw5] at s3 b3 ⊢;clear hw5 s2 b2;have hS:(fun w':World=>w'.cell? ⟨b,11,none⟩=some σ.vg/\w'.cell? ⟨b,4,none⟩=some (.slice A4 σ.cs.length c4')/\w'.cell? ⟨b,1,none⟩=some (.int .i64 (e:Int))/\w'.cell? ⟨cb,4,none⟩=some (.string x)) w5:=⟨s3.c.c11,by rw [<-ev4];exact s3.c.c4,s3.cur.c1,b3.at_ 4 (.string x) (NK (by rw [hl.len];omega))⟩;have hsub:(e:Int) - (x.size:Int)=(pl:Int):=by omega
  have wp:=aa pl (by omega);iterate 23 (refine tkn (v:=?_) rfl (by kernel_rfl) (fun _ _ _ h=>h) ⟨rfl,fun w hSw=>?_⟩ hS ?_;rotate_left;(focus ((try dsimp only at hSw);go_simp;(try with_reducible rfl)));(try simp only [Nn,Nk,Nj,Act.put,Ni,Np,Nq]))
  have ka:=Kp.alloc [] w5 (.cells #[.int .i64 (σ.cs.length:Int),.int .i64 (pl:Int)] 164);have s7:=s3.aj ka;have b7:=b3.aj ka (by simp);have hS7:(fun w':World=>w'.cell? ⟨b,11,none⟩=some σ.vg/\w'.cell? ⟨b,4,none⟩=some (.slice A4 σ.cs.length c4')/\w'.cell? ⟨b,1,none⟩=some (.int .i64 (e:Int))/\w'.cell? ⟨cb,4,none⟩=some (.string x)) (w5.alloc (.cells #[.int .i64 (σ.cs.length:Int),.int .i64 (pl:Int)] 164)):=⟨s7.c.c11,by rw [<-ev4];exact s7.c.c4,s7.cur.c1,b7.at_ 4 (.string x) (NK (by rw [hl.len];omega))⟩;have BN:=Bl.alloc w5 [.int .i64 (σ.cs.length:Int),.int .i64 (pl:Int)] 164;refine ai (i:=23) (by kernel_rfl) rfl (fun K hK=>?_);go_simp;refine hK.out _ _ (.inr hS7) ?_;clear hK K;refine ai (i:=24) (by kernel_rfl) rfl (fun K hK=>?_);refine jj (by rfl) (.tmp 17) (.tmp 36) 125 (by rfl) w0.heap.size 164 i0 _ 2 16 Tryz.underlying125 HI.out.1 HI.out.2.1 HI.out.2.2.1 HI.out.2.2.2 rfl (by decide) σ.vg σ.gs.length (σ.gs.flatMap fun p:Nat×Nat=>[Value.int .i64 (p.1:Int),.int .i64 (p.2:Int)]) (by rw [ev];rfl) s7.r.o11 ⟨w5.heap.size,0,none⟩ 1 1 [.int .i64 (σ.cs.length:Int),.int .i64 (pl:Int)] (by rfl) rfl (fun j u hu=>by rw [Addr.add_mid,NJ];exact BN.at_ j u hu) (fun u hu=>by simp at hu;rcases hu with rfl | rfl <;> rfl) (by unfold maxLen;omega) (by omega) s7.r.kp.size (by omega) ?_
  intro g cap w8 ho8 hg8 hor8;have blt:=s7.cur.lt;have hb2:w8.heap[b]? = (w5.alloc (.cells #[.int .i64 (σ.cs.length:Int),.int .i64 (pl:Int)] 164)).heap[b]?:=hg8.block b blt (fun e=>by have:=s7.r.bk.ne 0 7 b rfl (by first | exact e | exact e.symm);omega);have hb3:w8.heap[cb]? = (w5.alloc (.cells #[.int .i64 (σ.cs.length:Int),.int .i64 (pl:Int)] 164)).heap[cb]?:=hg8.block cb b7.lt (fun e=>hf.bk 7 (by first | exact e | exact e.symm));have hS8:(fun w':World=>w'.cell? ⟨b,11,none⟩=some σ.vg/\w'.cell? ⟨b,4,none⟩=some (.slice A4 σ.cs.length c4')/\w'.cell? ⟨b,1,none⟩=some (.int .i64 (e:Int))/\w'.cell? ⟨cb,4,none⟩=some (.string x)) w8:=⟨(World.cell?_of_block hb2).trans hS7.1,(World.cell?_of_block hb2).trans hS7.2.1,(World.cell?_of_block hb2).trans hS7.2.2.1,(World.cell?_of_block hb3).trans hS7.2.2.2⟩;have c11:=hS8.1;have f11:w8.frozen? ⟨b,11,none⟩=false:=(World.frozen?_of_block hb2).trans (s7.cur.free 11)
  have s9:=s3.pushGoal (x:=(σ.cs.length,pl)) ka ho8 hg8 hor8;have b8:Bl w8 cb (cv.set 4 (.string x)):=b7.aj (aR (S:=σ.vg.ownBlock.toList) hg8 (fun p hp=>by rw [hp];simp)) (fun hm=>hf.bk 7 (show σ.vg.ownBlock=some cb by simpa using hm));have b9:=b8.aj (Kp.setCell (S:=[b]) (p:=⟨b,11,none⟩) w8 (.slice (some ⟨g,0,none⟩) (σ.gs.length+1) cap) (by simp)) (by simpa using hne);have gfar:cb≠g:=fun e=>by
   rcases hor8 with q | q
   .exact hf.bk 7 (show σ.vg.ownBlock=some cb by rw [e];exact q)
   .have:=b7.lt;omega
  refine hK.out _ _ (.inr hS8) ?_;clear hK K;have S9:=hid s9;have B9:=hid b9;clear s9 b9 ho8 hg8 hor8 s3 b3 b7 b8 ka BN hb2 hb3 hS hS7 s7;refine ai (i:=25) (by kernel_rfl) rfl (fun K hK=>?_);go_simp;refine hK.out _ _ (.inr hS8) ?_;clear hK K;refine ai (i:=26) (by kernel_rfl) rfl (fun K hK=>?_);go_simp;refine hK.out _ _ (.inr hS8) ?_;clear hK K;refine ai (i:=27) (by kernel_rfl) rfl (fun K hK=>?_);go_simp;refine hK.out _ _ (.inl rfl) ?_;clear hK K;refine ax (by kernel_rfl) ?_ _;have far':Sr.Far w0 b { σ with vg:=.slice (some ⟨g,0,none⟩) (σ.gs.length+1) cap,gs:=σ.gs++[(σ.cs.length,pl)] } cb:=by
   refine ⟨hf.lo,fun i=>?_,hf.fx⟩;rw [lE b σ ⟨g,0,none⟩ (σ.gs.length+1) cap (σ.gs++[(σ.cs.length,pl)])];show (if i=7 then some g else srB b σ i)≠_;split
   .intro e;injection e with e;exact gfar e.symm
   .exact hf.bk i
  go_wp2_with fail;go_end0;exact ⟨rfl,_,S9.out,_,B9.out,l2,far',⟨_,rfl⟩,rfl⟩
theorem Kk {n e pl:Nat} {x:ByteArray} (hw:isW src (blk src k)=true) (h:wdN src (blk src (blk src k)) n (blk src (blk src k))=some e) (hx:src.extract (blk src (blk src k)) e=x) (hpl:pl+x.size=e) (he:e<=2000) (hcs:σ.cs.length<=2000):Cs w0 95 b src k e σ (Jp x pl):=GQ (.inl ⟨hw,h,hx⟩) hpl he hcs
theorem Kl {e pl:Nat} (hw:isW src (blk src k)=false) (he:e=blk src k) (hpe:pl=e) (hz2:e<=2000) (hcs:σ.cs.length<=2000):Cs w0 95 b src k e σ (Jp ⟨#[]⟩ pl):=GQ (n:=0) (.inr ⟨hw,he,rfl⟩) hpe hz2 hcs
theorem uW {r:RdS} {L:List AdrS} {rn:Nat} {nt:Bool}:gK w0 98 b src k σ r (operE src k r (du L rn nt 121)):=by
 intro w cb cv hs hb hl hz hf _;have hlt:=hs.cur.lt;have hne:cb≠b:=fun e=>hf.bk 0 (by rw [e];rfl);have HF:=hid hf;have HZ:=hid hz;clear hz;obtain ⟨R,hR⟩:∃ R,R=operE src k r (du L rn nt 121):=⟨_,rfl⟩;rw [<-hR];simp only [operE,du,Nat.reduceEqDiff,if_false,false_or,if_true] at hR
 cases h47:saw src k 47
 case false=>
  rw [h47,Nr (by simp)] at hR;have HRE:=hid hR;clear hR;go_enter Tryz.func98,Tryz.ntmps98
  go_wp2_with fail;refine (Ca 47 hs.e h47).mono ?_;rintro q w1 ⟨rfl,m1⟩;go_wp2_with fail;refine ⟨rfl,?_⟩;rw [HRE.out];exact ⟨rfl,hs.qz m1⟩
 case true=>
 rw [h47,Ny rfl] at hR;have H0:=hid h47;clear h47
 cases h1:pE src (src.size+1) (k+1) [] with
 | error pl=>
  rw [h1] at hR;have HRE:=hid hR;have H1:=hid h1;clear hR h1;go_enter Tryz.func98,Tryz.ntmps98
  go_wp2_with fail;refine (tJ 47 hs.cur H0.out).mono ?_;rintro q w1 ⟨rfl,c1,m1⟩;have BF:=oQ (hs.e.move m1 c1);rw [H1.out] at BF;have HBF:=hid BF;clear BF;go_wp2_with fail;refine HBF.out.mono ?_;rintro q w2 ⟨rfl,m2⟩;go_wp2_with fail;refine ⟨rfl,?_⟩;rw [HRE.out];exact ⟨rfl,hs.qz (m1.trans m2)⟩
 | ok p=>
 obtain ⟨e1,L1⟩:=p;rw [h1] at hR;have H1:=hid h1;have HRE:=hid hR;have hle1:L1.length<=2000:=by
  have q:=tE h1;have:=hs.cur.small;have q1:=q.2.1;have q2:=q.2.2;simp at q2;omega
 clear hR h1;go_enter Tryz.func98,Tryz.ntmps98
 go_wp2_with fail;refine (tJ 47 hs.cur H0.out).mono ?_;rintro q w1 ⟨rfl,c1,m1⟩;have BF:=oQ (hs.e.move m1 c1);rw [H1.out] at BF;have HBF:=hid BF;clear BF;go_wp2_with fail;refine HBF.out.mono ?_;rintro q w2 ⟨rfl,c2,m2⟩;have c2:Cur w2 b src e1:=c2;have m12:=m1.trans m2;have b2:=hb.aj m12.kp (by simpa using hne);have hS2:=hid (hs.move m12 c2);have hx:∀ j,j < 23->∃ v,cv[j]? = some v:=fun j hj=>⟨_,Nv (by rw [hl.len];exact hj)⟩
 obtain ⟨v19,g19⟩:=hx 19 (by omega);obtain ⟨v20,g20⟩:=hx 20 (by omega);have d19:=b2.at_ 19 _ g19;have d20:=b2.at_ 20 _ g20;have f19:=b2.free 19;have f20:=b2.free 20;have hsz:(ba L1).size=L1.length:=by rw [ay]
 dsimp only;obtain ⟨r1,hr1⟩:∃ r1,r1=src.extract (k+1) (e1 - 1):=⟨_,rfl⟩;rw [<-hr1];have R1:=hid hr1;clear hr1;go_upto_region 2 with fail
 have l19:19 < cv.length:=by rw [hl.len];omega
 have l20:20 < (cv.set 19 (.string r1)).length:=by rw [(hl.set 19 rfl).len];omega
 have b3:=(b2.set 19 (.string r1) l19).set 20 (.string (ba L1)) l20;have k3:Kp [cb] w2 ((w2.setCell ⟨cb,19,none⟩ (.string r1)).setCell ⟨cb,20,none⟩ (.string (ba L1))):=(Kp.setCell _ _ (by simp)).trans (Kp.setCell _ _ (by simp));have S3:=hid (hS2.out.other k3 (fun y hy=>by simp at hy;rw [hy];exact HF.out));have HL3:=hid ((hl.set 19 (v:=.string r1) rfl).set 20 (v:=.string (ba L1)) rfl);obtain ⟨w3,hw3⟩:∃ w3,w3=(w2.setCell ⟨cb,19,none⟩ (.string r1)).setCell ⟨cb,20,none⟩ (.string (ba L1)):=⟨_,rfl⟩;rw [<-hw3] at b3 S3 ⊢;clear hw3 k3 d19 d20 f19 f20 b2 hS2 c1 c2 m12 m1 m2 hs hb;obtain ⟨cv3,hcv3⟩:∃ cv3,cv3=(cv.set 19 (Value.string r1)).set 20 (.string (ba L1)):=⟨_,rfl⟩;have q20:cv3[20]? = some (.string (ba L1)):=by rw [hcv3,NK l20]
 rw [<-hcv3] at b3 HL3;have C3:=hid hcv3;clear hcv3 hx g19 g20;have d20:=b3.at_ 20 _ q20;have BT:=IU (M:=L1.length) S3.out.e hle1;have hRE:=HRE.out;clear HRE
 cases h2:toE src L1.length (src.size+1) e1 [] with
 | error pl=>
  rw [h2] at BT hRE;have HBT:=hid BT;have HRE:=hid hRE;clear BT hRE h2;go_wp2_with fail;refine HBT.out.mono ?_;rintro q w4 ⟨rfl,m4⟩;go_wp2_with fail;refine ⟨rfl,?_⟩;rw [HRE.out];exact ⟨rfl,S3.out.qz m4⟩
 | ok p=>
 obtain ⟨e2,L2⟩:=p;rw [h2] at BT hRE;have HBT:=hid BT;have HRE:=hid hRE;clear BT hRE h2;go_wp2_with fail;refine HBT.out.mono ?_;rintro q w4 ⟨rfl,c4,m4⟩;have c4:Cur w4 b src e2:=c4;have b4:=b3.aj m4.kp (by simpa using hne);have S4:=hid (S3.out.move m4 c4);have hx:∀ j,j < 23->∃ v,cv3[j]? = some v:=fun j hj=>⟨_,Nv (by rw [HL3.out.len];exact hj)⟩
 obtain ⟨v21,g21⟩:=hx 21 (by omega);obtain ⟨v22,g22⟩:=hx 22 (by omega);have d21:=b4.at_ 21 _ g21;have d22:=b4.at_ 22 _ g22;have f21:=b4.free 21;have f22:=b4.free 22;dsimp only;obtain ⟨r2,hr2⟩:∃ r2,r2=src.extract e1 (e2 - 1):=⟨_,rfl⟩;rw [<-hr2];have R2:=hid hr2;clear hr2;have l21:21 < cv3.length:=by rw [HL3.out.len];omega
 have l22:22 < (cv3.set 21 (.string r2)).length:=by rw [(HL3.out.set 21 rfl).len];omega
 have B5:=hid ((b4.set 21 (.string r2) l21).set 22 (.string (ba L2)) l22);have k5:Kp [cb] w4 ((w4.setCell ⟨cb,21,none⟩ (.string r2)).setCell ⟨cb,22,none⟩ (.string (ba L2))):=(Kp.setCell _ _ (by simp)).trans (Kp.setCell _ _ (by simp));have S5:=hid (S4.out.other k5 (fun y hy=>by simp at hy;rw [hy];exact HF.out));clear k5;go_wp2_with fail;refine bodyPost_ret (results_none rfl _ _ _) rfl ?_;rw [HRE.out];refine ⟨rfl,σ,_,S5.out,B5.out,(HL3.out.set 21 (v:=.string r2) rfl).set 22 (v:=.string (ba L2)) rfl,HF.out,?_,?_,fun h=>h,Nf.Fy⟩
 .rw [C3.out];obtain ⟨x0,x1,x2,x3,x4,x5,x6,x7,x8,x9,x10,x11,x12,x13,x14,x15,x16,x17,x18,x19,x20,x21,x22,rfl⟩:=dS hl.len
  rfl
 .have rz:=dq (fs:=σ.fs) HZ.out L rn nt 121;rw [C3.out,<-R1.out,<-R2.out];obtain ⟨x0,x1,x2,x3,x4,x5,x6,x7,x8,x9,x10,x11,x12,x13,x14,x15,x16,x17,x18,x19,x20,x21,x22,rfl⟩:=dS hl.len;exact ⟨rz.c4,rz.c5,rz.c6,rz.c7,rz.c8,rz.c9,rz.c10,rz.c11,rz.c13,rz.c14,rz.c15,rz.c16,rz.c17,rz.c18,rfl,rfl,rfl,rfl⟩
end
