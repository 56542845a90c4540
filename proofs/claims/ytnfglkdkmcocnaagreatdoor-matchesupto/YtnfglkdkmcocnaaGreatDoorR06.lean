import Derived.Test.YtnfglkdkmcocnaaGreatDoorR05
set_option maxRecDepth 100000
set_option maxHeartbeats 16000000
set_option linter.all false
namespace Go.Proofs.YtnfglkdkmcocnaaGreatDoor
open Go.RowKit
variable {Z:List (Nat×Obj)}
theorem slice_none {W:World} {v:Value} {e:TypeId} {b size:Nat} {xs:List Value} (h:W.ownsRow b e size v 0 xs) (U:World):(Instr.slice 235 v none (some (.int .i64 0)) none).run Tryz.prog U=.ok v U:=by
 rcases own_formP h with ⟨rfl,_⟩ | ⟨g,c,rfl⟩
 ·kernel_rfl
 ·go_simp
theorem uns_seen {n D Q V pl:Nat} {t:Thr} {sn:Nat→Bool} (ht:okT n D t) (hQ:Q=n * (D+1)) (hV:V=pl * Q) (h:¬ sn (seenAt n D pl t)=true):uns (more sn (seenAt n D pl t)) V Q+1=uns sn V Q:=by
 have e:seenAt n D pl t=V+(t.pc * (D+1)+t.tk):=by rw [seenAt_eq,hV,hQ]
 rw [e] at h ⊢
 exact uns_mark sn V _ h Q (by rw [hQ];exact at_lt ht.1 ht.2)
theorem follow_any {w W:World} {f p g c n D sb N Q V pl:Nat} {text:ByteArray} {here:List Thr} {v3 v4 v5:Value} {s:Mc} {cd:Nat→In} {t:Thr}
  (h:Fg Z w W f p sb N pl text here v3 v4 v5 s) (hl:s.left=[]) (hcd:Cd w p g c n D cd) (ht:okT n D t) (hs:OkM n D s) (hQ:Q=n * (D+1)) (hV:V=pl * Q) (hN:(text.size+1) * Q≤64 * N) (hNb:N≤1000000) (hb:Q≤50000) (hpl:pl≤text.size) (hA:s.ahead.length≤30000) :
  Calls Tryz.prog 209 #[.pointer (some ⟨f,0,none⟩),.agg (tf t.pc t.tk t.x).toArray] W fun e W'=>e=.returned (.tuple #[]) ∧
   ∃ v4' v5' s',Fg Z w W' f p sb N pl text here v3 v4' v5' s'∧s'.left=[]∧OkM n D s'∧s'.ahead.length+uns s'.sn V Q≤s.ahead.length+uns s.sn V Q∧GoesP cd n D text pl (some t) s s':=by
 obtain ⟨ti,hi,hz0,hz1,hz2⟩:=info_parts Tryz.infoTh
 have HI:=hid hi
 have HZ:=hid (And.intro hz0 (And.intro hz1 hz2))
 clear hi hz0 hz1 hz2
 have HF:=hid h
 have HCD:=hid hcd
 have HOK:=hid (And.intro ht hs)
 have o5:=h.o5
 rw [hl] at o5
 have HO:=hid o5
 have hsl:=slice_none o5
 have hu:=uns_le s.sn V Q
 have hU:Hid (V+Q≤64 * N):=hid (by
  have h1:=Nat.mul_le_mul_right Q (show pl+1≤text.size+1 by omega)
  rw [Nat.add_mul,Nat.one_mul] at h1
  rw [hV];exact Nat.le_trans h1 hN)
 have HM:=hid (And.intro hQ (And.intro hV hN))
 clear hQ hV hN
 go_enter Tryz.func209,Tryz.ntmps209
 go_wp2
 obtain ⟨w1,hw1⟩:∃ w1:World,w1=W.alloc (.cells (tf t.pc t.tk t.x).toArray 274):=⟨_,rfl⟩
 have k1:Kp [] W w1:=by rw [hw1];exact Kp.alloc _ _ _
 have z1:w1.heap.size=W.heap.size+1:=by rw [hw1];simp
 have fT:Hid (∀ j,w1.frozen? ⟨W.heap.size,j,none⟩=false):=hid (fun j=>by rw [hw1];simp)
 have rT:w1.rangeAt W.heap.size 0 (tf t.pc t.tk t.x):=by rw [hw1];exact range_new W (tf t.pc t.tk t.x).toArray 274
 have e5:=(h.keep k1).c5
 have ef5:=(h.keep k1).free 5
 have HO1:=hid (ownsRow_keep o5 k1 (by simp))
 have HT:=hid (tf_one t.pc t.tk t.x)
 have hB1:=hid ((h.keep k1).kp.size)
 rw [←hw1]
 clear hw1 h hcd ht hs o5
 refine wp_region_noPanic ?_
 refine wp_region_T (fun w':World=>w'.cell? ⟨f,5,none⟩=some v5∧w'.rangeAt W.heap.size 0 (tf t.pc t.tk t.x)) 11 (by kernel_rfl) ?_
 have hS:(fun w':World=>w'.cell? ⟨f,5,none⟩=some v5∧w'.rangeAt W.heap.size 0 (tf t.pc t.tk t.x)) w1.drew:=⟨e5,rT⟩
 iterate 6 (refine tkn (v:=?_) rfl (by kernel_rfl) (fun _ _ _ h=>h) ⟨rfl,fun w hSw=>?_⟩ hS ?_;rotate_left;(focus ((try dsimp only at hSw);go_simp;(try with_reducible rfl)));(try simp only [List.getElem_toArray,List.getElem_cons_succ,List.getElem_cons_zero,Act.put,List.setIfInBounds_toArray,List.set_cons_zero,List.set_cons_succ]))
 refine wpAnyT_take (i:=6) (v:=.agg (tf t.pc t.tk t.x).toArray) rfl (by kernel_rfl) (by kernel_rfl) (by kernel_rfl) (by kernel_rfl) (fun _ _ _ h=>h) (Or.inl ⟨by rfl,?y6⟩) hS ?_
 case y6=>(intro U hw;have hq:=run_loadAt_mid (P:=Tryz.prog) U W.heap.size 0 274 (tf t.pc t.tk t.x) _ hw.2 Tryz.underlying274 rfl Tryz.szThread;clear hw;simp only [execOp,List.getElem_toArray,List.getElem_cons_succ,List.getElem_cons_zero];show Sem.run Tryz.prog (Instr.loadAt 274 (.pointer (some ⟨W.heap.size,0,none⟩)) >>= fun u=>pure (Next.value u)) U=_;rw [Sem.run_bind,hq];rfl)
 simp only [List.getElem_toArray,List.getElem_cons_succ,List.getElem_cons_zero,Act.put,List.setIfInBounds_toArray,List.set_cons_zero,List.set_cons_succ]
 refine wpAnyT_one (i:=7) (by kernel_rfl) rfl (fun K hK=>?_)
 go_simp
 refine hK.out _ _ (.inr ⟨cell_ad e5 _,range_ad rT _⟩) ?_
 clear hK K
 refine wpAnyT_one (i:=8) (by kernel_rfl) rfl (fun K hK=>?_)
 refine step_append2 (by rfl) (.tmp 10) (.tmp 12) 235 (by rfl) w.heap.size 274 ti _ 22 176 Tryz.underlying235 HI.out HZ.out.1 HZ.out.2.1 HZ.out.2.2 rfl (by decide) v5 0 [] (by rfl) (HO1.out.alloc _).drew ⟨W.heap.size+1,0,none⟩ 1 1 (tf t.pc t.tk t.x) (by rfl) rfl (news_cells w1 _ _ _ z1.symm) HT.out (by unfold maxLen;omega) (by omega) (Nat.le_trans hB1.out (by simp)) (by decide) ?_
 intro g5 q5 w3 hown3 hgrow hor
 have hf5:some f≠v5.ownBlock:=fun e=>(HF.out.x5 f e.symm).1 rfl
 have htn:some W.heap.size≠v5.ownBlock:=own_ne_new HO.out
 have S3:(fun w':World=>w'.cell? ⟨f,5,none⟩=some v5∧w'.rangeAt W.heap.size 0 (tf t.pc t.tk t.x)) w3:=⟨grown_cell' hgrow hf5 (cell_ad e5 _),rangeAt_grown (range_ad rT _) hgrow htn⟩
 refine hK.out _ _ (.inr S3) ?_
 clear hK K
 refine wpAnyT_one (i:=9) (by kernel_rfl) rfl (fun K hK=>?_)
 go_simp
 refine hK.out _ _ (.inr S3) ?_
 clear hK K
 refine wpAnyT_one (i:=10) (by kernel_rfl) rfl (fun K hK=>?_)
 go_simp
 refine hK.out _ _ (.inr S3) ?_
 clear hK K
 have c5':=S3.1
 have f5':=(grown_free' hgrow (p:=⟨f,5,none⟩) hf5 (World.block_lt_of_cell? _ _ (cell_ad e5 _))).trans (free_ad e5 ef5 _)
 have HG:=hid (And.intro hown3 (And.intro hgrow hor))
 have R3:=hid S3.2
 clear hown3 hgrow hor S3 hS ef5
 refine wpAnyT_one (i:=11) (by kernel_rfl) rfl (fun K hK=>?_)
 go_simp
 refine hK.out _ _ (.inl rfl) ?_
 clear hK K
 refine wpAnyT_done (by kernel_rfl) ?_ _
 refine NoPanic.normal ?_
 have ps:=step_postQ (q:=5) e5 (Kp.refl [] w1) HO1.out HG.out.1 HG.out.2.1 HG.out.2.2 hf5 c5'
 obtain ⟨g6,c6,p1,p2,p3,p4⟩:=ps
 have fk:=HF.out.keep k1
 have e6:g6=g5∧c6=q5:=by
  have:=(cell_same (w:=w3) (a:=⟨f,5,none⟩) (.slice (some ⟨g5,0,none⟩) 1 q5) c5').symm.trans p1
  simp at this
  exact ⟨this.1.symm,this.2.symm⟩
 obtain ⟨rfl,rfl⟩:=e6
 have hl0:s.left.length=0:=by rw [hl];rfl
 have fs:=fk.push (t:=t) (g':=g6) (c':=c6) (W':=w3.setCell ⟨f,5,none⟩ (.slice (some ⟨g6,0,none⟩) (0+1) c6)) (by rw [hl0];exact p1) (by rw [hl0,hl];exact p2) p3 p4
 have tb0:Tb Z w w1 f sb v3 v4 v5 W.heap.size t:=⟨⟨HF.out.kp.size,by have:=HF.out.flt;omega,by have:=HF.out.slt;omega,fun e=>by have:=(HF.out.o3.lt _ e).2;omega,fun e=>by have:=(HF.out.o4.lt _ e).2;omega,fun e=>htn e.symm,fun e he r=>by have:=lt_of_block (HF.out.fx e he).1;omega⟩,by omega,rT,fT.out⟩
 have tb1:Tb Z w (w3.setCell ⟨f,5,none⟩ (.slice (some ⟨g6,0,none⟩) (0+1) c6)) f sb v3 v4 (.slice (some ⟨g6,0,none⟩) (s.left.length+1) c6) W.heap.size t:=by
  refine tb0.stay (p4.block _ tb0.lt tb0.far.nf htn) p4.size tb0.far.n4 (fun e=>?_)
  have e:g6=W.heap.size:=by simpa [Value.ownBlock] using e
  rcases p3 with r | r
  ·exact htn (by rw [r,e])
  ·omega
 have FS:=hid (And.intro fs tb1)
 generalize w3.setCell ⟨f,5,none⟩ (.slice (some ⟨g6,0,none⟩) (0+1) c6)=U0 at *
 generalize W.heap.size=T at *
 clear fs tb1 tb0 fk p1 p2 p3 p4 c5' f5' HG R3 e5 rT hf5 htn hsl HO1 HO hB1 fT k1 z1
 go_wp2
 go_loopw [4] (fun _ wr=>∃ a4 a5 sc,Fg Z w wr f p sb N pl text here v3 a4 a5 sc∧(∃ t',Tb Z w wr f sb v3 a4 a5 T t')∧OkM n D sc∧sc.ahead.length+sc.left.length+uns sc.sn V Q≤s.ahead.length+1+uns s.sn V Q∧(sc.left.length=0→sc.ahead.length+uns sc.sn V Q≤s.ahead.length+uns s.sn V Q)∧Hid (∀ s',GoesP cd n D text pl none sc s'→GoesP cd n D text pl (some t) s s')) (fun _ wr=>2 * unsW wr sb V Q+leftW wr f)
 case atStart=>
  refine ⟨v4,_,_,FS.out.1,⟨t,FS.out.2⟩,⟨HOK.out.2.ahead,fun u hu=>?_⟩,?_,fun h0=>?_,hid (fun s' gs=>?_)⟩
  ·have hu':u=t:=by simpa [hl] using hu
   rw [hu'];exact HOK.out.1
  ·simp [hl]
  ·simp [hl] at h0
  ·have:=goes_pop_inv (l:=[]) (t:=t) (by simp [hl]) gs
   have e:({ s with left:=[] }:Mc)=s:=by cases s;simp at hl;subst hl;rfl
   rw [←e];exact this
 case round=>
  obtain ⟨a4,a5,sc,fg,⟨t',tb⟩,okc,bd,bd2,back⟩:=hrel
  have FG:=hid fg
  have TB:=hid tb
  have OKC:=hid okc
  rcases List.eq_nil_or_concat sc.left with hnil | ⟨l,tl,hcons⟩
  ·have o5:=fg.o5
   rw [hnil] at o5
   have c5:=fg.c5
   rcases own_formP o5 with ⟨e5,_⟩ | ⟨gg,cc,e5⟩
   all_goals
    rw [e5] at c5
    clear fg tb okc FS o5
    go_wp2_with fail
    go_end0
    exact ⟨rfl,a4,a5,sc,FG.out,hnil,OKC.out,bd2 (by rw [hnil];rfl),back.out _ (goes_done hnil)⟩
  ·rw [List.concat_eq_append] at hcons
   have o5:=fg.o5
   rw [hcons,flat_snoc,List.length_append,List.length_singleton] at o5
   rcases own_formP o5 with ⟨_,e5⟩ | ⟨g5,q5,e5⟩
   ·omega
   ·subst e5
    obtain ⟨L,hL⟩:∃ L,l.length=L:=⟨_,rfl⟩
    have RG:Hid (wr.rangeAt g5 (L * 22) (tf tl.pc tl.tk tl.x)):=hid (fun j v hv=>by
     have:=row_at o5 (L * 22+j) v (by rw [List.getElem?_append_right (by rw [flat_len,hL];omega),flat_len,hL,Nat.add_sub_cancel_left];exact hv)
     rwa [Nat.zero_add] at this)
    have TT:Hid (wr.there T 0 22):=hid (fun j hj=>by
     have hr:=tb.cells j ((tf t'.pc t'.tk t'.x)[j]'hj) (List.getElem?_eq_getElem hj)
     exact ⟨by rw [hr];rfl,tb.free _⟩)
    have HT2:=hid (tf_one tl.pc tl.tk tl.x)
    obtain ⟨M,hM⟩:∃ M,M=L+1:=⟨_,rfl⟩
    have c5:=fg.c5
    rw [hL,←hM] at c5
    have f5:=fg.free 5
    have hcap:=row_cap o5
    have hLM:L < M:=by omega
    have hM0:0 < M:=by omega
    have hLq:L≤q5:=by omega
    have eM:(M:Int) - 1=(L:Int):=by omega
    have wL:=wrap_i64_nat L (by
     have:=bd
     rw [hcons,List.length_append,List.length_singleton] at this
     omega)
    obtain ⟨w5,hw5⟩:∃ w5:World,wr.setCells T 0 (tf tl.pc tl.tk tl.x).toArray.toList=w5:=⟨_,rfl⟩
    have x5:w5.cell? ⟨f,5,none⟩=some (.slice (some ⟨g5,0,none⟩) M q5):=by
     rw [←hw5,World.cell?_setCells_out _ _ _ _ _ (fun e _=>absurd e (Ne.symm tb.far.nf))];exact c5
    have y5:w5.frozen? ⟨f,5,none⟩=false:=by rw [←hw5,World.frozen?_setCells];exact f5
    have H5:=hid hw5
    clear hw5 FS fg tb okc
    have O5:=hid o5
    clear o5
    go_wp2_with (first | (refine wpList_load_mid rfl 274 (.tmp 33) rfl g5 (L * 22) rfl (tf tl.pc tl.tk tl.x) _ RG.out Tryz.underlying274 rfl Tryz.szThread ?_) | (refine wpList_store_mid rfl 274 (.tmp 3) (.tmp 34) rfl T 0 (tf tl.pc tl.tk tl.x).toArray rfl rfl TT.out Tryz.szThread (all_oneCell_toArray HT2.out) ?_;rw [H5.out]))
    have k5:Kp [T] wr w5:=by rw [←H5.out];exact Kp.setCells (by simp) _ _ _
    have fg5:=FG.out.other k5 (fun T' e=>by rw [List.mem_singleton.1 e];exact TB.out.far)
    have tb5:Tb Z w w5 f sb v3 a4 (.slice (some ⟨g5,0,none⟩) (l.length+1) q5) T tl:=⟨TB.out.far,Nat.lt_of_lt_of_le TB.out.lt k5.size,by rw [←H5.out];exact World.rangeAt_setCells_same wr T 0 (tf tl.pc tl.tk tl.x) TT.out,fun i=>by rw [←H5.out,World.frozen?_setCells];exact TB.out.free i⟩
    have fg6:=fg5.pop hcons
    have tb6:Tb Z w (w5.setCell ⟨f,5,none⟩ (.slice (some ⟨g5,0,none⟩) l.length q5)) f sb v3 a4 (.slice (some ⟨g5,0,none⟩) l.length q5) T tl:=tb5.stay (Below.heap_setCell _ _ _ _ tb5.far.nf) (by simp [World.setCell]) tb5.far.n4 tb5.far.n5
    rw [hL] at fg6 tb6
    have FG6:=hid (And.intro fg6 tb6)
    have eM0:=FG.out.uns V Q hU.out
    have eL0:=FG.out.left
    obtain ⟨M0,hM0'⟩:∃ M0,M0=2 * unsW wr sb V Q+leftW wr f:=⟨_,rfl⟩
    generalize w5.setCell ⟨f,5,none⟩ (.slice (some ⟨g5,0,none⟩) L q5)=w6 at *
    clear fg5 tb5 fg6 tb6 k5 x5 y5 c5 f5 RG TT HT2 H5 O5
    have okl:okT n D tl:=OKC.out.left tl (by rw [hcons];simp)
    go_loopw [49] (fun _ wl=>∃ a4 a5 si tc,Fg Z w wl f p sb N pl text here v3 a4 a5 si∧Tb Z w wl f sb v3 a4 a5 T tc∧okT n D tc∧OkM n D si∧si.ahead.length+si.left.length+1+uns si.sn V Q≤s.ahead.length+1+uns s.sn V Q∧2 * uns si.sn V Q+si.left.length < M0∧Hid (∀ s',GoesP cd n D text pl (some tc) si s'→GoesP cd n D text pl (some t) s s')) (fun _ wl=>unsW wl sb V Q)
    case atStart=>
     refine ⟨a4,_,_,tl,FG6.out.1,FG6.out.2,okl,⟨OKC.out.ahead,fun u hu=>OKC.out.left u (by rw [hcons];exact List.mem_append_left _ hu)⟩,?_,?_,hid (fun s' gs=>back.out s' (goes_pop hcons gs))⟩
     ·rw [hcons,List.length_append,List.length_singleton] at bd
      show sc.ahead.length+l.length+1+uns sc.sn V Q≤_
      omega
     ·show 2 * uns sc.sn V Q+l.length < M0
      rw [hM0',eM0,eL0,hcons,List.length_append,List.length_singleton]
      omega
    case round=>
     obtain ⟨b4,b5,si,tc,fi,tbi,okc',oki,bdi,msi,backi⟩:=hrel
     have FI:=hid (And.intro fi tbi)
     have OKI:=hid (And.intro okc' oki)
     clear fi tbi okc' oki FG6 FG TB
     go_wp2_with fail
     refine (first_any FI.out.1 FI.out.2 HCD.out OKI.out.1.1 OKI.out.1.2 (by rw [←HM.out.1];exact HM.out.2.2) hNb hpl).mono ?_
     rintro e W1 (⟨hsn,rfl,fg1,tb1⟩ | ⟨hsn,rfl,fg1,tb1⟩)
     ·have F1:=hid (And.intro fg1 tb1)
      clear fg1 tb1
      go_wp2_with fail
      refine ⟨⟨b4,b5,si,F1.out.1,⟨_,F1.out.2⟩,OKI.out.2,by omega,fun h0=>by omega,hid (fun s' gs=>backi.out s' (goes_seen hsn gs))⟩,?_⟩
      rw [F1.out.1.uns V Q hU.out,F1.out.1.left,←hM0'];exact msi
     ·have F1:=hid (And.intro fg1 tb1)
      clear fg1 tb1
      have hum:=uns_seen OKI.out.1 HM.out.1 HM.out.2.1 hsn
      have okm:OkM n D { si with sn:=more si.sn (seenAt n D pl tc) }:=⟨OKI.out.2.ahead,OKI.out.2.left⟩
      obtain ⟨sf1,sf2,sf3,sf4⟩:=stepA_facts (text:=text) (pl:=pl) HCD.out.ok OKI.out.1 okm
      have hback:=hid (fun s' gs=>backi.out s' (goes_step hsn gs))
      have SF:=hid (And.intro sf3 sf4)
      have huI:=FI.out.1.uns V Q hU.out
      have sfl:=stepA_left (cd:=cd) (text:=text) (pl:=pl) (t:=tc) (s:={ si with sn:=more si.sn (seenAt n D pl tc) })
      clear okm sf3 sf4
      go_wp2_with fail
      refine (step_any F1.out.1 F1.out.2 HCD.out OKI.out.1.1 (show si.ahead.length≤100000 by omega) (show si.left.length≤100000 by omega)).mono ?_
      rintro e W2 ⟨rfl,dn⟩
      generalize stepA cd text pl tc { si with sn:=more si.sn (seenAt n D pl tc) }=r at *
      obtain ⟨d4,d5,fg2,tc2,tb2,htc⟩:=dn
      have F2:=hid (And.intro fg2 (And.intro tb2 htc))
      clear fg2 tb2 htc
      obtain ⟨o,s2⟩:=r
      have sf1':s2.sn=more si.sn (seenAt n D pl tc):=sf1
      have sf2':s2.ahead.length+s2.left.length≤si.ahead.length+si.left.length+1:=sf2
      have sfl':s2.left.length≤si.left.length+1:=sfl
      cases o with
      | none=>
       go_wp2_with fail
       refine ⟨⟨d4,d5,s2,F2.out.1,⟨_,F2.out.2.1⟩,SF.out.1,?_,fun h0=>?_,hback⟩,?_⟩
       ·rw [sf1'];omega
       ·have h0':s2.left.length=0:=h0
        rw [sf1'];omega
       ·have a1:=F2.out.1.uns V Q hU.out
        have a2:=F2.out.1.left
        have a1':unsW W2 sb V Q=uns s2.sn V Q:=a1
        have a2':leftW W2 f=s2.left.length:=a2
        rw [a1',a2',sf1',←hM0'];omega
      | some u=>
       go_wp2_with fail
       refine ⟨⟨d4,d5,s2,u,F2.out.1,?_,SF.out.2 u rfl,SF.out.1,?_,?_,hback⟩,?_⟩
       ·have:=F2.out.2.2 u rfl
        rw [←this];exact F2.out.2.1
       ·rw [sf1'];omega
       ·rw [sf1'];omega
       ·have a1:unsW W2 sb V Q=uns s2.sn V Q:=F2.out.1.uns V Q hU.out
        rw [a1,huI,sf1'];omega
variable {Z:List (Nat×Obj)}
def Sweep (cd:Nat→In) (n D:Nat) (text:ByteArray) (pl:Nat):List Thr→Mc→Mc→Prop
 | [],s,s'=>s'=s
 | t::l,s,s'=>(s.fd=true∧s.best 0 < t.x 0∧s'=s)∨(¬ (s.fd=true∧s.best 0 < t.x 0)∧∃ s1,GoesP cd n D text pl (some t) s s1∧Sweep cd n D text pl l s1 s')
theorem flat_atP:∀ (l:List Thr) (k:Nat) (t:Thr),l[k]? = some t→∀ j,j < 22→(flat l)[k * 22+j]? = (tf t.pc t.tk t.x)[j]?
 | h::l,0,t,e,j,hj=>by
  have e':h=t:=by simpa using e
  subst e'
  show (tf h.pc h.tk h.x++flat l)[0 * 22+j]? = _
  rw [Nat.zero_mul,Nat.zero_add,List.getElem?_append_left hj]
 | h::l,k+1,t,e,j,hj=>by
  have e':l[k]? = some t:=by simpa using e
  show (tf h.pc h.tk h.x++flat l)[(k+1) * 22+j]? = _
  rw [List.getElem?_append_right (by show 22≤_;omega)]
  have:=flat_atP l k t e' j hj
  rwa [show (k+1) * 22+j - (tf h.pc h.tk h.x).length=k * 22+j by show (k+1) * 22+j - 22=_;omega]
section
variable {w W W':World} {f p g c n D sb N Q V pl gh ch:Nat} {text:ByteArray} {here:List Thr} {v3 v4 v5:Value} {s:Mc} {cd:Nat→In} {t:Thr}
theorem Fg.swap (h:Fg Z w W f p sb N pl text here (.slice (some ⟨gh,0,none⟩) here.length ch) v4 v5 s) (q:Swapped f v4 (.slice (some ⟨gh,0,none⟩) 0 ch) W W') :
  Fg Z w W' f p sb N pl text s.ahead v4 (.slice (some ⟨gh,0,none⟩) 0 ch) v5 { s with ahead:=[] }:=by
 have cf:=q.cell
 have ob:∀ k,k < W.heap.size→k≠f→W'.heap[k]? = W.heap[k]?:=fun k hk hkf=>q.kept.block k hk (by simpa using hkf)
 have x3:=h.x3 gh rfl
 refine ⟨Kp.own (x:=f) ((h.kp.mono (by simp)).trans q.kept) h.flo,h.flo,h.slo,h.ne,(cf _ (by omega) (by omega)).trans h.c0,(cf _ (by omega) (by omega)).trans h.c1,(cf _ (by omega) (by omega)).trans h.c2,q.c3,q.c4,(cf _ (by omega) (by omega)).trans h.c5,(cf _ (by omega) (by omega)).trans h.c6,(cf _ (by omega) (by omega)).trans h.c7,fun j u hu=>(cf _ (by omega) (by omega)).trans (h.best j u hu),fun i=>(q.free i).trans (h.free i),Nat.lt_of_lt_of_le h.slt q.kept.size,fun i hi=>?_,
  owns_of_block h.o4 (fun k hk hl=>ob k hl (h.x4 k hk).1),owns_of_block (ownsRow_empty h.o3) (fun k hk hl=>ob k hl ?_),owns_of_block h.o5 (fun k hk hl=>ob k hl (h.x5 k hk).1),fun k hk=>?_,fun k hk=>?_,h.x5,fun e he=>⟨(ob e.1 (lt_of_block (h.fx e he).1) (h.fx e he).2.1).trans (h.fx e he).1,(h.fx e he).2.1,(h.fx e he).2.2.1,(h.fx e he).2.2.2.2.1,(h.fx e he).2.2.2.1,(h.fx e he).2.2.2.2.2⟩⟩
 ·have r:=h.seen i hi
  have e:=ob sb h.slt h.ne
  exact ⟨(World.cell?_of_block (w:=W) e).trans r.1,(World.frozen?_of_block (w:=W) e).trans r.2⟩
 ·have e:k=gh:=by simpa [Value.ownBlock] using hk.symm
  rw [e];exact x3.1
 ·have r:=h.x4 k hk
  refine ⟨r.1,r.2.1,fun e=>?_,r.2.2⟩
  have e:k=gh:=by simpa [Value.ownBlock] using e.symm
  subst e
  exact x3.2.2.1 hk
 ·have e:k=gh:=by simpa [Value.ownBlock] using hk.symm
  subst e
  exact ⟨x3.1,x3.2.1,x3.2.2.2⟩
theorem goOn_any (h:Fg Z w W f p sb N pl text here v3 v4 v5 s) (hne:here≠[]) (hl:s.left=[]) (hcd:Cd w p g c n D cd) (hh:∀ u∈here,okT n D u) (hs:OkM n D s) (hQ:Q=n * (D+1)) (hV:V=pl * Q) (hN:(text.size+1) * Q≤64 * N) (hNb:N≤1000000) (hb:Q≤10000) (hpl:pl≤text.size) (hA:s.ahead.length≤100) (hH:here.length≤10000) :
  Calls Tryz.prog 166 #[.pointer (some ⟨f,0,none⟩)] W fun e W'=>e=.returned (.tuple #[]) ∧
   ∃ a4 b4 a5 s',Fg Z w W' f p sb N pl text s'.ahead a4 b4 a5 { s' with ahead:=[] }∧s'.left=[]∧OkM n D s'∧s'.ahead.length≤s.ahead.length+Q∧Sweep cd n D text pl here s s':=by
 rcases own_formP h.o3 with ⟨_,e⟩ | ⟨gh,ch,e3⟩
 ·exact absurd (List.length_eq_zero_iff.1 e) hne
 subst e3
 have HF:=hid h
 have HCD:=hid hcd
 have HH:=hid hh
 have HOK:=hid hs
 have hu:=uns_le s.sn V Q
 have HM:=hid (And.intro hQ (And.intro hV hN))
 clear hQ hV hN
 have c3:=h.c3
 have hcap:=row_cap h.o3
 obtain ⟨L,hL⟩:∃ L,here.length=L:=⟨_,rfl⟩
 rw [hL] at c3
 have hL2:L≤10000:=by omega
 have hLc:L≤ch:=by omega
 clear h hcd hh hs
 go_enter Tryz.func166,Tryz.ntmps166
 go_wp2
 go_loopw [8] (fun v wr=>∃ k:Nat,k≤L∧v=.int .i64 k∧∃ a4 a5 sk,Fg Z w wr f p sb N pl text here (.slice (some ⟨gh,0,none⟩) here.length ch) a4 a5 sk∧sk.left=[]∧OkM n D sk∧sk.ahead.length+uns sk.sn V Q≤s.ahead.length+uns s.sn V Q∧Hid (∀ s',Sweep cd n D text pl (here.drop k) sk s'→Sweep cd n D text pl here s s')) (fun v _=>L - (intOf v).toNat)
 case atStart=>exact ⟨0,by omega,rfl,v4,v5,s,HF.out,hl,HOK.out,by omega,hid (fun s' q=>q)⟩
 case round=>
  obtain ⟨k,hk,rfl,a4,a5,sk,fg,lk,okk,bd,back⟩:=hrel
  have FG:=hid fg
  have OKK:=hid okk
  have d3:=fg.c3
  rw [hL] at d3
  have d4:=fg.c4
  have d7:=fg.c7
  have f3:=fg.free 3
  have f4:=fg.free 4
  obtain ⟨ao,an,ac,e4⟩:=slice_of fg.o4
  by_cases hlt:k < L
  ·obtain ⟨t,et⟩:∃ t,here[k]? = some t:=⟨here[k]'(by omega),List.getElem?_eq_getElem (by omega)⟩
   have hd:here.drop k=t::here.drop (k+1):=by
    have hk':k < here.length:=by omega
    rw [List.drop_eq_getElem_cons hk']
    rw [List.getElem?_eq_getElem hk'] at et
    rw [Option.some.inj et]
   have hmem:t∈here:=List.mem_of_getElem? et
   have r3:=row_at fg.o3
   have RG:Hid (wr.rangeAt gh (k * 22) (tf t.pc t.tk t.x)):=hid (fun j v hv=>by
    have hj:j < 22:=(List.getElem?_eq_some_iff.1 hv).1
    have:=r3 (k * 22+j) v (by rw [flat_atP here k t et j hj];exact hv)
    rwa [Nat.zero_add] at this)
   have dn:wr.cell? ⟨gh,k * 22+2,none⟩=some (.int .i64 (t.x 0)):=RG.out 2 _ rfl
   have db:wr.cell? ⟨f,8,none⟩=some (.int .i64 (sk.best 0)):=fg.best 0 _ rfl
   subst e4
   clear fg okk
   by_cases hcut:sk.fd=true∧sk.best 0 < t.x 0
   ·obtain ⟨hfd,hx⟩:=hcut
    rw [hfd] at d7
    go_wp2_with fail
    go_quiet (fail)
    go_wp2_with fail
    go_region
    all_goals go_wp2
    all_goals go_end0
    all_goals
     have sw:=swapped_of (v:=.slice ao an ac) (u:=.slice (some ⟨gh,0,none⟩) 0 ch) (w:=wr.drewN nq) d3 d4
     refine ⟨rfl,_,_,a5,sk,(FG.out.keep (Kp.drewN [] wr nq)).swap sw,lk,OKK.out,by omega,back.out sk ?_⟩
     rw [hd]
     exact .inl ⟨hfd,hx,rfl⟩
   ·cases hfd:sk.fd with
    | false=>
     rw [hfd] at d7
     go_wp2_with fail
     go_quiet (fail)
     have kq:=Kp.drewN [] wr nq
     have RQ:=hid (rangeAt_keep RG.out kq (by simp))
     have FQ:=hid (FG.out.keep kq)
     have q3:(wr.drewN nq).cell? ⟨f,3,none⟩=some (.slice (some ⟨gh,0,none⟩) L ch):=d3
     generalize wr.drewN nq=w1 at *
     clear d3 d4 d7 f3 f4 dn db r3
     go_wp2_with (first | (refine wpList_load_mid rfl 274 (.tmp 38) rfl gh (k * 22) rfl (tf t.pc t.tk t.x) _ RQ.out Tryz.underlying274 rfl Tryz.szThread ?_) | fail)
     refine (follow_any FQ.out lk HCD.out (HH.out t hmem) OKK.out HM.out.1 HM.out.2.1 HM.out.2.2 hNb (by omega) hpl (by omega)).mono ?_
     rintro e w2 ⟨rfl,b4,b5,s2,fg2,l2,ok2,bd2,goes⟩
     have F2:=hid (And.intro fg2 (And.intro ok2 goes))
     clear fg2 ok2 goes q3
     go_wp2_with fail
     exact ⟨⟨k+1,by omega,by go_num,b4,b5,s2,F2.out.1,l2,F2.out.2.1,by omega,hid (fun s' q=>back.out s' (by rw [hd];exact .inr ⟨hcut,s2,F2.out.2.2,q⟩))⟩,by simp [intOf];omega⟩
    | true=>
     rw [hfd] at d7
     have hx:¬ sk.best 0 < t.x 0:=fun q=>hcut ⟨hfd,q⟩
     go_wp2_with fail
     go_quiet (fail)
     have kq:=Kp.drewN [] wr nq
     have RQ:=hid (rangeAt_keep RG.out kq (by simp))
     have FQ:=hid (FG.out.keep kq)
     have q3:(wr.drewN nq).cell? ⟨f,3,none⟩=some (.slice (some ⟨gh,0,none⟩) L ch):=d3
     generalize wr.drewN nq=w1 at *
     clear d3 d4 d7 f3 f4 dn db r3
     go_wp2_with (first | (refine wpList_load_mid rfl 274 (.tmp 38) rfl gh (k * 22) rfl (tf t.pc t.tk t.x) _ RQ.out Tryz.underlying274 rfl Tryz.szThread ?_) | fail)
     refine (follow_any FQ.out lk HCD.out (HH.out t hmem) OKK.out HM.out.1 HM.out.2.1 HM.out.2.2 hNb (by omega) hpl (by omega)).mono ?_
     rintro e w2 ⟨rfl,b4,b5,s2,fg2,l2,ok2,bd2,goes⟩
     have F2:=hid (And.intro fg2 (And.intro ok2 goes))
     clear fg2 ok2 goes q3
     go_wp2_with fail
     exact ⟨⟨k+1,by omega,by go_num,b4,b5,s2,F2.out.1,l2,F2.out.2.1,by omega,hid (fun s' q=>back.out s' (by rw [hd];exact .inr ⟨hcut,s2,F2.out.2.2,q⟩))⟩,by simp [intOf];omega⟩
  ·subst e4
   clear fg okk
   have hkL:k=L:=by omega
   go_wp2_with fail
   go_region
   all_goals go_wp2
   all_goals go_end0
   all_goals
    have sw:=swapped_of (v:=.slice ao an ac) (u:=.slice (some ⟨gh,0,none⟩) 0 ch) (w:=wr) d3 d4
    refine ⟨rfl,_,_,a5,sk,(FG.out).swap sw,lk,OKK.out,by omega,back.out sk ?_⟩
    rw [List.drop_eq_nil_of_le (by omega)]
    exact rfl
end
