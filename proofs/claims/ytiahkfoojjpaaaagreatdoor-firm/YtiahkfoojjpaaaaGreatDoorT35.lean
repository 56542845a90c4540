import Derived.Test.YtiahkfoojjpaaaaGreatDoorT32
set_option maxRecDepth 100000
set_option maxHeartbeats 16000000
set_option linter.all false
namespace Go.Proofs.YtiahkfoojjpaaaaGreatDoor
open Go.RowKit
theorem ox {W1:World} {lo n size:Nat} {e:TypeId} {xs:List Value} {u:Value} (h:W1.ownsRow lo e size u n xs):∃ ad cap,u=.slice ad n cap:=by
 rcases h.2 with ⟨h1,h2⟩ | ⟨g,cap,cur,h1,_⟩
 .exact ⟨none,0,by rw [h1,h2]⟩
 .exact ⟨_,_,h1⟩
section
variable {w w':World} {b k:Nat} {src:ByteArray}
theorem rJ (x:Int) (hr:Cur w b src k) {v:Bool} (h:saw src k x=v) (n:Nat) :
  Calls Tryz.prog 137 #[.pointer (some ⟨b,0,none⟩),.int .u8 x] (w.drewN n) fun e w''=>e=.returned (.bool v)/\∃ m,w''=w.drewN m:=by
 subst h;exact Calls.quiet_of (MB x (hr.drewN n))
theorem Cur.set {k2:Nat} (h:Cur w b src k) (hk:k2<=src.size):Cur (w.setCell ⟨b,1,none⟩ (.int .i64 k2)) b src k2:=
 ⟨by simpa [World.setCell] using h.lt,hk,h.small,(aq _ (fun e=>by injection e with _ e _;omega)).trans h.c0,aw _ h.c1,fun i=>by simpa using h.free i⟩
theorem jo {x y:Int} (h:saw src k x=true) (hxy:x≠y):saw src k y=false:=by
 unfold saw at h ⊢;split at h
 .rename_i hk;rw [dif_pos hk];simp at h ⊢;rw [h];exact hxy
 .cases h
theorem Lc {G:Nat} (hr:Cur w b src k) (h:saw src k 38=true) :
  Calls Tryz.prog 165 #[.pointer (some ⟨b,0,none⟩),.int .i64 G] w fun e w'=>e=.returned (.tuple #[.int .i64 ((0:Nat):Int),.bool true])/\Cur w' b src (k+1)/\Mv b w w':=by
 have H:=hid (aX 38 hr h);clear h;go_enter Tryz.func165,Tryz.ntmps165
 go_wp2_with fail;refine H.out.mono ?_;rintro e w1 ⟨rfl,h1,m1⟩;go_wp2_with fail;go_ret2
 exact ⟨rfl,h1,m1⟩
theorem hole_no {G:Nat} (hr:Cur w b src k) (h:saw src k 38=false) (h2:saw src k 92=false) :
  Calls Tryz.prog 165 #[.pointer (some ⟨b,0,none⟩),.int .i64 G] w fun e w'=>e=.returned (.tuple #[.int .i64 0,.bool false])/\Cur w' b src k/\Mv b w w':=by
 have H:=hid (aX 38 hr h);have H2:=hid h2;clear h h2;go_enter Tryz.func165,Tryz.ntmps165
 go_wp2_with fail;refine H.out.mono ?_;rintro e w1 ⟨rfl,h1,m1⟩;have h1:Cur w1 b src k:=h1;have S:=hid (fun n=>rJ 92 h1 H2.out n);go_wp2_with fail;go_quiet ((go_at_call 137;exact S.out _));go_wp2_with fail;go_ret2
 exact ⟨rfl,h1.drewN _,m1.trans (Mv.drewN _ _ _)⟩
theorem Du {G d:Nat} (hr:Cur w b src k) (h:saw src k 92=true) (hk:k+1 < src.size) (hd:(src[k+1]).toNat=48+d) (h1d:1<=d) (hdG:d<=G) (hG:G<=9) :
  Calls Tryz.prog 165 #[.pointer (some ⟨b,0,none⟩),.int .i64 G] w fun e w'=>e=.returned (.tuple #[.int .i64 d,.bool true])/\Cur w' b src (k+2)/\Mv b w w':=by
 have h38:saw src k 38=false:=jo h (by decide);have H:=hid (aX 38 hr h38);have H2:=hid h;clear h h38;go_enter Tryz.func165,Tryz.ntmps165
 go_wp2_with fail;refine H.out.mono ?_;rintro e w1 ⟨rfl,h1,m1⟩;have h1:Cur w1 b src k:=h1;have S:=hid (fun n=>rJ 92 h1 H2.out n);have c0:=h1.c0;have c1:=h1.c1;have hsm:=h1.small;obtain ⟨k1,hk1⟩:∃ k1:Nat,(k:Int)+1=(k1:Int):=⟨k+1,by omega⟩;have wk1:=aa k1 (by omega);have hne:((k1:Int) == (src.size:Int))=false:=by rw [Nz];omega
 go_wp2_with fail;go_quiet ((go_at_call 137;exact S.out _));have h2:=h1.drewN nq;have m2:=m1.trans (Mv.drewN b w1 nq);generalize w1.drewN nq=w2 at *;clear c0 c1 S h1 m1;have c0:=h2.c0;have c1:=h2.c1;have f1:=h2.free 1;have hkk:k1 < src.size:=by omega
 obtain ⟨y,hy⟩:∃ y:Nat,y=48+d:=⟨_,rfl⟩;have c5:(⟨src.data⟩:ByteArray)[k1].toNat=y:=by
  have e:k1=k+1:=by omega
  subst e;exact hd.trans hy.symm
 have ey:(y:Int) - 48=(d:Int):=by omega
 have wd:=aa d (by omega);have wy:=aa y (by omega);have d1:¬ ((d:Int) < 1):=by omega
 have d2:¬ ((G:Int) < (d:Int)):=by omega
 have HY:=hid hy;have HD:=hid hd;clear hd hy;obtain ⟨k2,hk2⟩:∃ k2:Nat,(k:Int)+2=(k2:Int):=⟨k+2,by omega⟩;have wk2:=aa k2 (by omega);go_wp2_with fail;go_quiet (fail);go_wp2_with fail;go_ret2
 have h3:=h2.drewN nq;have e2:k2=k+2:=by omega
 refine ⟨rfl,?_,(m2.trans (Mv.drewN b w2 nq)).trans (Mv.step b _ _)⟩;rw [<-e2];exact h3.set (by omega)
theorem Lb {G:Nat} (hr:Cur w b src k) (h:saw src k 92=true) (hk:k+1=src.size) :
  Calls Tryz.prog 165 #[.pointer (some ⟨b,0,none⟩),.int .i64 G] w fun e w'=>e=.returned (.tuple #[.int .i64 0,.bool false])/\Cur w' b src k/\Mv b w w':=by
 have h38:saw src k 38=false:=jo h (by decide);have H:=hid (aX 38 hr h38);have H2:=hid h;clear h h38;go_enter Tryz.func165,Tryz.ntmps165
 go_wp2_with fail;refine H.out.mono ?_;rintro e w1 ⟨rfl,h1,m1⟩;have h1:Cur w1 b src k:=h1;have S:=hid (fun n=>rJ 92 h1 H2.out n);have c0:=h1.c0;have c1:=h1.c1;have hsm:=h1.small;obtain ⟨k1,hk1⟩:∃ k1:Nat,(k:Int)+1=(k1:Int):=⟨k+1,by omega⟩;have wk1:=aa k1 (by omega);have hne:((k1:Int) == (src.size:Int))=true:=by rw [beq_iff_eq];omega
 clear hk;go_wp2_with fail;go_quiet ((go_at_call 137;exact S.out _));go_wp2_with fail;go_ret2
 exact ⟨rfl,h1.drewN _,m1.trans (Mv.drewN _ _ _)⟩
theorem La {G:Nat} (hr:Cur w b src k) (h:saw src k 92=true) (hk:k+1 < src.size) (hd:¬ (49<=(src[k+1]).toNat/\(src[k+1]).toNat<=48+G)) (hG:G<=9) :
  Calls Tryz.prog 165 #[.pointer (some ⟨b,0,none⟩),.int .i64 G] w fun e w'=>e=.returned (.tuple #[.int .i64 0,.bool false])/\Cur w' b src k/\Mv b w w':=by
 have h38:saw src k 38=false:=jo h (by decide);have H:=hid (aX 38 hr h38);have H2:=hid h;clear h h38;go_enter Tryz.func165,Tryz.ntmps165
 go_wp2_with fail;refine H.out.mono ?_;rintro e w1 ⟨rfl,h1,m1⟩;have h1:Cur w1 b src k:=h1;have S:=hid (fun n=>rJ 92 h1 H2.out n);have c0:=h1.c0;have c1:=h1.c1;have hsm:=h1.small;obtain ⟨k1,hk1⟩:∃ k1:Nat,(k:Int)+1=(k1:Int):=⟨k+1,by omega⟩;have wk1:=aa k1 (by omega);have hne:((k1:Int) == (src.size:Int))=false:=by rw [Nz];omega
 go_wp2_with fail;go_quiet ((go_at_call 137;exact S.out _));have h2:=h1.drewN nq;have m2:=m1.trans (Mv.drewN b w1 nq);generalize w1.drewN nq=w2 at *;clear c0 c1 S h1 m1;have c0:=h2.c0;have c1:=h2.c1;have hkk:k1 < src.size:=by omega
 obtain ⟨y,hy⟩:∃ y:Nat,y=(src[k+1]).toNat:=⟨_,rfl⟩;have hy256:y < 256:=by rw [hy];exact Oc _
 have c5:(⟨src.data⟩:ByteArray)[k1].toNat=y:=by
  have e:k1=k+1:=by omega
  subst e;exact hy.symm
 obtain ⟨d,hde⟩:∃ d:Int,(y:Int) - 48=d:=⟨_,rfl⟩;have wd:IntKind.i64.wrap d=d:=by rw [IntKind.wrap_i64];omega
 have wy:=aa y (by omega);rw [<-hy] at hd;by_cases d1:d < 1
 .clear hd hy;go_wp2_with fail;go_quiet (fail);go_wp2_with fail;go_ret2
  exact ⟨rfl,h2.drewN _,m2.trans (Mv.drewN _ _ _)⟩
 .have d2:(G:Int) < d:=by omega
  clear hd hy;go_wp2_with fail;go_quiet (fail);go_wp2_with fail;go_ret2
  exact ⟨rfl,h2.drewN _,m2.trans (Mv.drewN _ _ _)⟩
def HoleO (b:Nat) (src:ByteArray) (k:Nat) (w:World) (o:Option (Nat×Nat)) (e:Ending) (w':World):Prop:=
 match o with
 | some (l,g)=>e=.returned (.tuple #[.int .i64 g,.bool true])/\Cur w' b src l/\Mv b w w'
 | none=>e=.returned (.tuple #[.int .i64 0,.bool false])/\Cur w' b src k/\Mv b w w'
theorem hole_g {G:Nat} (hr:Cur w b src k) (hG:G<=9):Calls Tryz.prog 165 #[.pointer (some ⟨b,0,none⟩),.int .i64 G] w (HoleO b src k w (xy src G k)):=by
 unfold xy
 cases h38:saw src k 38
 .rw [Nr (by simp)]
  cases h92:saw src k 92
  .rw [Nr (by simp)];exact hole_no hr h38 h92
  .rw [Ny rfl];have hlt:=aM h92;by_cases hk:k+1 < src.size
   .rw [dif_pos hk];by_cases hd:49<=(src[k+1]'hk).toNat/\(src[k+1]'hk).toNat<=48+G
    .rw [Ny hd];exact Du hr h92 hk (by omega) (by omega) (by omega) hG
    .rw [Nr hd];exact La hr h92 hk hd hG
   .rw [dif_neg hk];exact Lb hr h92 (by omega)
 .rw [Ny rfl];exact Lc hr h38
theorem Ld {s:ByteArray} {G k l g:Nat} (h:xy s G k=some (l,g)):k < l/\l<=s.size/\g<=G:=by
 unfold xy at h;split at h
 .rename_i h38;have:=aM h38;injection h with h;injection h with h1 h2;omega
 .split at h
  .split at h
   .split at h
    .injection h with h;injection h with h1 h2;omega
    .cases h
   .cases h
  .cases h
abbrev lU (H:List (Nat×Nat)):List Value:=H.flatMap fun q:Nat×Nat=>[Value.int .i64 (q.1:Int),.int .i64 (q.2:Int)]
theorem Tryz.KU:(Tryz.prog.info? 211).map (fun i=>(i.zero,i.size,i.bytes))=some (some (.agg #[.int .i64 0,.int .i64 0]),2,16):=by kernel_rfl
theorem Tryz.szNew:(Tryz.prog.info? 87).map (·.size)=some 3:=by kernel_rfl
theorem Dw (H:List (Nat×Nat)) (a g:Nat):lU (H++[(a,g)])=lU H++[.int .i64 (a:Int),.int .i64 (g:Int)]:=by simp [lU]
theorem Kc {lo lo2 size n:Nat} {e:TypeId} {v:Value} {xs:List Value} (h:w.ownsRow lo e size v n xs) (hl:lo2<=lo):w.ownsRow lo2 e size v n xs:=by
 refine ⟨h.1,?_⟩;rcases h.2 with q | ⟨g,cap,cur,q1,q2,q3⟩
 .exact .inl q
 .exact .inr ⟨g,cap,cur,q1,Nx hl q2,q3⟩
def NewO (b:Nat) (src:ByteArray) (k:Nat) (w:World) (q:Nat×List UInt8×List (Nat×Nat)) (r:Ending) (w':World):Prop:=
 ∃ v,r=.returned (.agg #[.string (src.extract k (q.1 - 1)),.string (ba q.2.1),v])/\w'.ownsRow w.heap.size 211 2 v q.2.2.length (lU q.2.2)/\Cur w' b src q.1/\Mv b w w'
theorem Hb {G:Nat} (hre:rh w b src k) (hG:G<=9) :
  Calls Tryz.prog 140 #[.pointer (some ⟨b,0,none⟩),.int .i64 G] w (OutS (flt4 (newE src G (src.size+1) k [] [])) (NewO b src k w) b w):=by
 have hr:=hre.cur;have HC2:=hid hre.c2;clear hre;obtain ⟨R,hR⟩:∃ R,R=newE src G (src.size+1) k [] []:=⟨_,rfl⟩;rw [<-hR];have HRE:=hid hR;clear hR;have hsm:=hr.small;have hlt:=hr.lt;obtain ⟨i0,hi,hz0,hz1,hz2⟩:=info_parts Tryz.eQ;have HI:=hid (And.intro hi (And.intro hz0 (And.intro hz1 hz2)));clear hi hz0 hz1 hz2;obtain ⟨j0,hi,hz0,hz1,hz2⟩:=info_parts Tryz.KU;have HJ:=hid (And.intro hi (And.intro hz0 (And.intro hz1 hz2)));clear hi hz0 hz1 hz2;have k1:=Kp.alloc [] w (.cells #[.string ⟨#[]⟩,.string ⟨#[]⟩,.slice none 0 0] 87);have BP:=Bl.alloc w [.string ⟨#[]⟩,.string ⟨#[]⟩,.slice none 0 0] 87;obtain ⟨p,hp⟩:∃ p,p=w.heap.size:=⟨_,rfl⟩;obtain ⟨wt,hwp⟩:∃ wt,wt=w.alloc (.cells #[.string ⟨#[]⟩,.string ⟨#[]⟩,.slice none 0 0] 87):=⟨_,rfl⟩;have hr2:=hr.aj k1 (by simp);have m2:Mv b w wt:=by rw [hwp];exact ⟨k1.mono (by simp),fun j _=>k1.cell (p:=⟨b,j,none⟩) hlt (by simp)⟩
 have hpb:p≠b:=by omega
 rw [<-hp,<-hwp] at BP;rw [<-hwp] at k1 hr2;have hpw:p < wt.heap.size:=BP.lt;have c1:=hr.c1;go_enter Tryz.func140,Tryz.ntmps140
 go_upto_region 1 with fail
 rw [<-hp,<-hwp];have HP:=hid hp;clear hp hwp c1;have c1:=hr2.c1;have hbs:=hid (Nw wt.heap.size);have B2:=BP;clear k1 hr BP;go_wp2_with fail;go_loopw [6,7] (fun v vh wr=>∃ a m acc hs,k<=a/\src.size+1<=a+m/\acc.length+hs.length+k<=a/\Cur wr b src a/\Hid (Mv b w wr)/\Hid (Bl wr p [.string ⟨#[]⟩,.string ⟨#[]⟩,.slice none 0 0])/\Hid (wr.ownsRow wt.heap.size 5 1 v acc.length (Lib.byteCells acc))/\Hid (wr.ownsRow wt.heap.size 211 2 vh hs.length (lU hs))/\Hid (∀ g,v.ownBlock=some g->vh.ownBlock≠some g)/\Hid (R=newE src G m a acc hs)/\Hid (wt.heap.size<=wr.heap.size)) (fun _ _ wr=>3000 - im wr b)
 case atStart=>exact ⟨k,src.size+1,[],[],Nw _,by omega,by simp,hr2,hid m2,hid B2,hid ⟨rfl,.inl ⟨rfl,rfl⟩⟩,hid ⟨rfl,.inl ⟨rfl,rfl⟩⟩,hid (fun g hg=>by cases hg),HRE,hbs⟩
 case round=>
  clear hr2 m2 B2 HRE hbs c1;obtain ⟨a,m,acc,hs,hka,ham,hak,hrr,HM,HB,HO,HQ,HX,HN,HS⟩:=hrel;have HAT:=hid (aC hrr);have hle:=hrr.le
  match m,HN,ham with
  | 0,_,ham=>omega
  | m+1,HN,ham=>
  have hN:=HN.out;unfold newE at hN;clear HN;obtain ⟨A5,cp5,e5⟩:=ox HO.out;subst e5;obtain ⟨A6,cp6,e6⟩:=ox HQ.out;subst e6;have hbl:b < wt.heap.size:=by have:=HP.out;omega
  have gb:Hid (∀ g,(Value.slice A5 acc.length cp5).ownBlock=some g->wt.heap.size<=g):=hid (fun g hg=>(aA HO.out hg).1);have gh:Hid (∀ g,(Value.slice A6 hs.length cp6).ownBlock=some g->wt.heap.size<=g):=hid (fun g hg=>(aA HQ.out hg).1);by_cases hst:a < src.size/\saw src a 10=false
  case neg=>
   rw [Nr hst] at hN;have HN:=hid hN;have hlv:leaves src a=true:=by
    unfold leaves;by_cases e:a=src.size
    .simp [e]
    .cases h10:saw src a 10
     .exact absurd ⟨by omega,h10⟩ hst
     .simp
   have SF:=hid (AW ⟨hrr,(HM.out.same 2 (by omega)).trans HC2.out⟩ hlv);clear hN hlv hst;go_wp2_with fail;refine SF.out.mono ?_;rintro r w1 ⟨rfl,m1⟩;go_wp2_with fail;refine ⟨rfl,?_⟩;rw [HN.out];exact ⟨rfl,HM.out.trans m1⟩
  obtain ⟨hk,h10⟩:=hst;rw [Ny ⟨hk,h10⟩] at hN
  cases h47:saw src a 47
  case true=>
   rw [h47,Ny rfl] at hN;have HN:=hid hN;clear hN;have SH:=hid (gX hrr hk h10 h47);clear h10 h47;go_wp2_with fail;refine SH.out.mono ?_;rintro r w1 ⟨rfl,h1,m1⟩;have B1:=hid (HB.out.aj m1.kp (by simpa using hpb));have O1:=ai HO.out (fun g hg=>m1.kp.block g (aA HO.out hg).2 (by have:=gb.out g hg;simp;omega));have O2:=ai O1 (fun g hg=>(Kp.drew [] w1).block g (aA O1 hg).2 (by simp));have Q1:=ai HQ.out (fun g hg=>m1.kp.block g (aA HQ.out hg).2 (by have:=gh.out g hg;simp;omega));have Q2:=hid (ai Q1 (fun g hg=>(Kp.drew [] w1).block g (aA Q1 hg).2 (by simp)));have hcv:=gR O2;have B2:=hid (B1.out.aj (Kp.drew [] w1) (by simp));have M2:=hid ((HM.out.trans m1).trans (Mv.drew b w1));have h2:=h1.drew;have hkl:a<=src.size:=by omega
   have wd:=aa a (by omega);have e1:((a+1:Nat):Int) - 1=(a:Int):=by omega
   have hS:(fun w':World=>w'.cell? ⟨b,0,none⟩=some (.string src)/\w'.cell? ⟨b,1,none⟩=some (.int .i64 ((a+1:Nat):Int))/\(convert 49 9 (.slice A5 acc.length cp5)).run Tryz.prog w'=.ok (.string (ba acc)) w') w1.drew:=⟨h2.c0,h2.c1,hcv⟩;obtain ⟨a1,ha1⟩:∃ a1,a1=a+1:=⟨_,rfl⟩;rw [<-ha1] at hS e1 h2;have HA1:=hid ha1;clear hcv O1 O2 HO h1 SH gb Q1 HX;go_upto_region 9 with fail
   refine az (fun w':World=>w'.cell? ⟨b,0,none⟩=some (.string src)/\w'.cell? ⟨b,1,none⟩=some (.int .i64 (a1:Int))/\(convert 49 9 (.slice A5 acc.length cp5)).run Tryz.prog w'=.ok (.string (ba acc)) w') 18 (by kernel_rfl) ?_;clear ha1;obtain ⟨w2,hw2⟩:∃ w2,w2=w1.drew:=⟨_,rfl⟩;rw [<-hw2] at hS B2 M2 h2 Q2 ⊢;clear hw2 B1;iterate 18 (refine tkn (v:=?_) rfl (by kernel_rfl) (fun _ _ _ h=>h) ⟨rfl,fun w hSw=>?_⟩ hS ?_;rotate_left;(focus ((try dsimp only at hSw);go_simp;(try with_reducible rfl)));(try simp only [Nn,Nk,Nj,Act.put,Ni,Np,Nq]))
   refine ag (i:=18) (by kernel_rfl) rfl (fun K hK=>?_);have p0:=B2.out.at_ 0 _ rfl;have p1:=B2.out.at_ 1 _ rfl;have p2:=B2.out.at_ 2 _ rfl;have q0:=B2.out.free 0;have q1:=B2.out.free 1;have q2:=B2.out.free 2;go_simp;refine hK.out _ _ (.inl rfl) ?_;clear hK K p0 p1 p2 q0 q1 q2 hS;refine ay (by kernel_rfl) ?_ _;have B3:Bl (((w2.setCell ⟨p,0,none⟩ (.string (src.extract k a))).setCell ⟨p,1,none⟩ (.string (ba acc))).setCell ⟨p,2,none⟩ (.slice A6 hs.length cp6)) p [.string (src.extract k a),.string (ba acc),.slice A6 hs.length cp6]:=((B2.out.set 0 _ (by simp)).set 1 _ (by simp)).set 2 _ (by simp);have ks:Kp [p] w2 (((w2.setCell ⟨p,0,none⟩ (.string (src.extract k a))).setCell ⟨p,1,none⟩ (.string (ba acc))).setCell ⟨p,2,none⟩ (.slice A6 hs.length cp6)):=(Kp.setCell _ _ (by simp)).trans ((Kp.setCell _ _ (by simp)).trans (Kp.setCell _ _ (by simp)));obtain ⟨w3,hw3⟩:∃ w3,w3=((w2.setCell ⟨p,0,none⟩ (.string (src.extract k a))).setCell ⟨p,1,none⟩ (.string (ba acc))).setCell ⟨p,2,none⟩ (.slice A6 hs.length cp6):=⟨_,rfl⟩
   rw [<-hw3] at B3 ks ⊢;clear hw3;have p0:=B3.at_ 0 _ rfl;have p1:=B3.at_ 1 _ rfl;have p2:=B3.at_ 2 _ rfl;go_wp2_with fail;refine bodyPost_ret (eD (p:=4) (ty:=87) (by rw [Tryz.results140]) _ _ p 0 rfl _ _ B3.range Tryz.underlying87 rfl (by rw [Tryz.szNew];rfl)) rfl ?_;rw [HN.out];refine ⟨.slice A6 hs.length cp6,rfl,?_,?_,M2.out.past ks hlt (fun q hq=>by simp at hq;have:=HP.out;omega)⟩
   .exact Kc (ai Q2.out (fun g hg=>ks.block g (aA Q2.out hg).2 (by rw [NH];have:=gh.out g hg;omega))) (by have:=HP.out;omega)
   .show Cur w3 b src (a+1);rw [<-HA1.out];exact h2.aj ks (by simpa using Ne.symm hpb)
  case false=>
   rw [h47,Nr (by simp)] at hN;have SH:=hid (gX hrr hk h10 h47);clear h10 h47;go_wp2_with fail;refine SH.out.mono ?_;rintro r w1 ⟨rfl,h1,m1⟩;have h1:Cur w1 b src a:=h1;have HH:=hid (hole_g (G:=G) h1 hG)
   cases hh:xy src G a with
   | some q=>
    obtain ⟨l,d⟩:=q;have hll:=Ld hh;rw [hh] at HH hN;replace hN:R=newE src G m l acc (hs++[(acc.length,d)]):=hN;have HN:=hid hN;clear hN hh;go_wp2_with fail;refine HH.out.mono ?_;rintro r w3 ⟨rfl,h3,m2⟩;have h3:Cur w3 b src l:=h3;have m12:=m1.trans m2;have HO3:=hid (ai HO.out (fun g hg=>m12.kp.block g (aA HO.out hg).2 (by have:=gb.out g hg;simp;omega)));have HQ3:=hid (ai HQ.out (fun g hg=>m12.kp.block g (aA HQ.out hg).2 (by have:=gh.out g hg;simp;omega)));have HB2:=hid (HB.out.aj m12.kp (by simpa using hpb));have M13:=hid m12;have hbs3:Hid (wt.heap.size<=w3.heap.size):=hid (Nx HS.out m12.kp.size);clear m12 m1 m2 h1;go_wp2_with (at_builtin;refine dE rfl _ _ 85 rfl wt.heap.size 211 j0 (.agg #[.int .i64 0,.int .i64 0]) 2 16 Tryz.underlying85 HJ.out.1 HJ.out.2.1 HJ.out.2.2.1 HJ.out.2.2.2 rfl (by decide) (.slice A6 hs.length cp6) hs.length (lU hs) rfl (ai HQ3.out (fun p hp=>(Kp.alloc [] w3 _).block p (aA HQ3.out hp).2 (by simp))) ⟨w3.heap.size,0,none⟩ 1 1 [.int .i64 (acc.length:Int),.int .i64 (d:Int)] rfl rfl (fun j u hu=>by rw [Addr.add_mid,NJ];exact (Bl.alloc w3 [.int .i64 (acc.length:Int),.int .i64 (d:Int)] 211).at_ j u hu) (fun u hu=>by simp at hu;rcases hu with rfl | rfl <;> rfl) (by unfold maxLen;omega) (by omega) (Nx hbs3.out (Kp.alloc [] w3 _).size) (by omega) ?_;intro g4 cap4 w4 ho4 hg4 hor4)
    have ka:=Kp.alloc [] w3 (.cells #[.int .i64 (acc.length:Int),.int .i64 (d:Int)] 211);have kg:Kp (Value.slice A6 hs.length cp6).ownBlock.toList w3 w4:=(ka.mono (by simp)).trans (aV (S:=(Value.slice A6 hs.length cp6).ownBlock.toList) hg4 (fun q hq=>by rw [hq];simp));have gm:∀ q,q∈(Value.slice A6 hs.length cp6).ownBlock.toList->wt.heap.size<=q:=fun q hq=>gh.out q (by simpa using hq);have hbw:wt.heap.size<=w4.heap.size:=Nx hbs3.out kg.size;have hww:w.heap.size<=wt.heap.size:=by have:=HP.out;omega
    have h4:=h3.aj kg (fun q=>by have:=gm b q;omega);have P4:Hid (Bl w4 p [.string ⟨#[]⟩,.string ⟨#[]⟩,.slice none 0 0]):=hid (HB2.out.aj kg (fun q=>by have:=gm p q;omega));have M4:Hid (Mv b w w4):=hid ((HM.out.trans M13.out).past kg hlt (fun q hq=>by have:=gm q hq;omega))
    have Q4:Hid (w4.ownsRow wt.heap.size 211 2 (.slice (some ⟨g4,0,none⟩) (hs.length+1) cap4) (hs++[(acc.length,d)]).length (lU (hs++[(acc.length,d)]))):=hid (by
     rw [Dw,Nu]
     exact ho4)
    have O4:Hid (w4.ownsRow wt.heap.size 5 1 (.slice A5 acc.length cp5) acc.length (Lib.byteCells acc)):=hid (ai HO3.out (fun g hg=>kg.block g (aA HO3.out hg).2 (fun q=>HX.out g hg (by simpa using q))))
    have X4:Hid (∀ g,(Value.slice A5 acc.length cp5).ownBlock=some g->(Value.slice (some ⟨g4,0,none⟩) (hs.length+1) cap4).ownBlock≠some g):=hid (fun g hg q=>by
     injection q with q;rcases hor4 with r | r
     .exact HX.out g hg (by rw [r];exact congrArg some q)
     .have:=(aA HO3.out hg).2;have r2:=Nx ka.size r;have q:g4=g:=q
      omega)
    have HCA:=hid (aC h4);go_round
    case rel=>exact ⟨l,m,acc,_,by omega,by omega,by simp;omega,h4,M4,P4,O4,Q4,X4,HN,hid hbw⟩
    case measure=>rw [HCA.out,HAT.out];omega
   | none=>
    rw [hh] at HH hN;go_wp2_with fail;refine HH.out.mono ?_;rintro r w2 ⟨rfl,h2,m2⟩;have m1:=m1.trans m2;clear m2 h1 hh;have PT:=hid (Bs escN ⟨h2,((HM.out.trans m1).same 2 (by omega)).trans HC2.out⟩ hk);unfold escN at PT
    cases hp:lS src escN a with
    | error pl=>
     rw [hp] at hN;unfold escN at hp;rw [hp] at PT;have HN:=hid hN;clear hN hp;go_wp2_with fail;refine PT.out.mono ?_;rintro r w3 ⟨rfl,m3⟩;go_wp2_with fail;refine ⟨rfl,?_⟩;rw [HN.out];exact ⟨rfl,HM.out.trans (m1.trans m3)⟩
    | ok q=>
    obtain ⟨l,x⟩:=q;have hll:=fP hp;rw [hp] at hN;unfold escN at hp;rw [hp] at PT;replace hN:R=newE src G m l (acc++[x]) hs:=hN;have HN:=hid hN;clear hN hp;go_wp2_with fail;refine PT.out.mono ?_;rintro r w3 ⟨rfl,h3,m2⟩;have h3:Cur w3 b src l:=h3;have m12:=m1.trans m2;obtain ⟨y,hy⟩:∃ y:Nat,y=x.toNat:=⟨_,rfl⟩;rw [show ((l,x):Nat×UInt8).2.toNat=y from hy.symm];have HY:=hid hy;have HO3:=hid (ai HO.out (fun g hg=>m12.kp.block g (aA HO.out hg).2 (by have:=gb.out g hg;simp;omega)));have HQ3:=hid (ai HQ.out (fun g hg=>m12.kp.block g (aA HQ.out hg).2 (by have:=gh.out g hg;simp;omega)));have HB2:=hid (HB.out.aj m12.kp (by simpa using hpb));have hsz:acc.length<=2000:=by omega
    have M13:=hid m12;have hbs3:Hid (wt.heap.size<=w3.heap.size):=hid (Nx HS.out m12.kp.size);clear hy m12 m1 m2 h2;go_wp2_with (at_builtin;refine dE rfl _ _ 49 rfl wt.heap.size 5 i0 (.int .u8 0) 1 1 Tryz.underlying49 HI.out.1 HI.out.2.1 HI.out.2.2.1 HI.out.2.2.2 rfl (by decide) (.slice A5 acc.length cp5) acc.length (Lib.byteCells acc) rfl (ai HO3.out (fun p hp=>(Kp.alloc [] w3 _).block p (aA HO3.out hp).2 (by simp))) ⟨w3.heap.size,0,none⟩ 1 1 [.int .u8 y] rfl rfl (fun j u hu=>by rw [Addr.add_mid,NJ];exact (Bl.alloc w3 [.int .u8 y] 5).at_ j u hu) (fun u hu=>by simp at hu;subst hu;rfl) (by unfold maxLen;omega) (by omega) (Nx hbs3.out (Kp.alloc [] w3 _).size) (by omega) ?_;intro g4 cap4 w4 ho4 hg4 hor4)
    have ka:=Kp.alloc [] w3 (.cells #[.int .u8 y] 5);have kg:Kp (Value.slice A5 acc.length cp5).ownBlock.toList w3 w4:=(ka.mono (by simp)).trans (aV (S:=(Value.slice A5 acc.length cp5).ownBlock.toList) hg4 (fun q hq=>by rw [hq];simp));have gm:∀ q,q∈(Value.slice A5 acc.length cp5).ownBlock.toList->wt.heap.size<=q:=fun q hq=>gb.out q (by simpa using hq);have hbw:wt.heap.size<=w4.heap.size:=Nx hbs3.out kg.size;have hww:w.heap.size<=wt.heap.size:=by have:=HP.out;omega
    have h4:=h3.aj kg (fun q=>by have:=gm b q;omega);have P4:Hid (Bl w4 p [.string ⟨#[]⟩,.string ⟨#[]⟩,.slice none 0 0]):=hid (HB2.out.aj kg (fun q=>by have:=gm p q;omega));have M4:Hid (Mv b w w4):=hid ((HM.out.trans M13.out).past kg hlt (fun q hq=>by have:=gm q hq;omega))
    have O4:Hid (w4.ownsRow wt.heap.size 5 1 (.slice (some ⟨g4,0,none⟩) (acc.length+1) cap4) (acc++[x]).length (Lib.byteCells (acc++[x]))):=hid (by
     have e1:Lib.byteCells (acc++[x])=Lib.byteCells acc++[.int .u8 y]:=by rw [HY.out];simp [Lib.byteCells]
     rw [e1,Nu]
     exact ho4)
    have Q4:Hid (w4.ownsRow wt.heap.size 211 2 (.slice A6 hs.length cp6) hs.length (lU hs)):=hid (ai HQ3.out (fun g hg=>kg.block g (aA HQ3.out hg).2 (fun q=>HX.out g (by simpa using q) hg)))
    have X4:Hid (∀ g,(Value.slice (some ⟨g4,0,none⟩) (acc.length+1) cap4).ownBlock=some g->(Value.slice A6 hs.length cp6).ownBlock≠some g):=hid (fun g q hg=>by
     injection q with q;rcases hor4 with r | r
     .exact HX.out g (by rw [r];exact congrArg some q) hg
     .have:=(aA HQ3.out hg).2;have r2:=Nx ka.size r;have q:g4=g:=q
      omega)
    have HCA:=hid (aC h4);go_round
    case rel=>exact ⟨l,m,acc++[x],hs,by omega,by omega,by simp;omega,h4,M4,P4,O4,Q4,X4,HN,hid hbw⟩
    case measure=>rw [HCA.out,HAT.out];omega
end
