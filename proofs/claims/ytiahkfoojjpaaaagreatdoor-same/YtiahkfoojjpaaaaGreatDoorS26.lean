import Derived.Test.YtiahkfoojjpaaaaGreatDoorS25
set_option maxRecDepth 100000
set_option maxHeartbeats 16000000
set_option linter.all false
namespace Go.Proofs.YtiahkfoojjpaaaaGreatDoor
open Go.RowKit
section
variable {w0 w:World}{b:Nat}{src:ByteArray}{σ:Sst}
theorem IJ{k ci pl:Nat}{c:List Value}{x:ByteArray}(hs:Sr w0 w b src k σ)(hc:σ.cs[ci]? = some c)(hx:c[4]? = some (.string x))(hne:(x.toList==[])=false)(hf:Instr.findNow .string (.string x) (lY 0 σ.ls) 0=some none):Calls Tryz.prog 106 #[.pointer (some ⟨b,0,none⟩),.agg #[.int .i64 (ci:Int),.int .i64 (pl:Int)]] w fun r w'=>r=iG 5 pl/\Kp [] w0 w':=by
 have hilt:ci<σ.cs.length:=(List.getElem?_eq_some_iff.1 hc).1;obtain⟨g,cap,ev⟩:=fY hs.r.o4 (by omega);have ka:=Kp.alloc [] w (.cells #[.int .i64 (ci:Int),.int .i64 (pl:Int)] 164);have BG:=Bl.alloc w [.int .i64 (ci:Int),.int .i64 (pl:Int)] 164;have s1:=hs.aj ka;have HF:=hid hf;have HEV:=hid ev;clear hf hs;go_enter Tryz.func106,Tryz.ntmps106
 go_upto_region 1 with fail
 obtain⟨gb,hgb⟩:∃gb,gb=w.heap.size:=⟨_,rfl⟩;obtain⟨w1,hw1⟩:∃w1,w1=w.alloc (.cells #[.int .i64 (ci:Int),.int .i64 (pl:Int)] 164):=⟨_,rfl⟩;rw[<-hgb,<-hw1] at BG;rw[<-hw1] at s1;rw[<-hgb,<-hw1];clear hgb hw1 ka;have c4:=s1.c.c4;rw[ev] at c4;have d0:=BG.at_ 0 _ rfl;clear ev;go_quiet (fail);have s2:=s1.aj (Kp.drewN [] w1 nq);have BG2:=BG.aj (Kp.drewN [] w1 nq) (by simp);obtain⟨w2,hw2⟩:∃w2,w2=w1.drewN nq:=⟨_,rfl⟩;rw[<-hw2] at s2 BG2 ⊢;clear hw2 s1 BG c4 d0;have d4:=(s2.qH HEV.out hc (j:=4) (by omega)).trans hx;go_upto_region 4 with fail
 have c9:=s2.c.c9;have hlk:∀m',(Instr.lookup 124 (.map (some σ.lb)) (.string x) true).run Tryz.prog (w2.drewN m')=.ok (.tuple #[.int .i64 0,.bool false]) (w2.drewN m'):=fun m'=>
  pO Tryz.underlying124 Tryz.underlying9 (tW _) (((Kp.drewN [] w2 m').block _ (s2.r.bk.hi 2 _ rfl) (by simp)).trans s2.r.m9) HF.out
 go_quiet (fail);have s3:=s2.aj (Kp.drewN [] w2 nq);have BG3:=BG2.aj (Kp.drewN [] w2 nq) (by simp);obtain⟨w3,hw3⟩:∃w3,w3=w2.drewN nq:=⟨_,rfl⟩;rw[<-hw3] at s3 BG3 ⊢;clear hw3 hlk c9 d4 s2 BG2;have d1:=BG3.at_ 1 _ rfl;have HKP:=hid s3.r.kp;clear s3;go_wp2_with fail;exact⟨rfl,rfl,HKP.out⟩
end
section
variable {w0:World}{b k pl:Nat}{src:ByteArray}{σ:Sst}
theorem Fs{n:Nat}(h:numF src 0 255 (blk src k) n 0 (blk src k)=some pl):OpF w0 99 b src k σ 4 pl:=by
 intro w cb cv hs _ _ _ _ _;have H:=hid h;clear h;go_enter Tryz.func99,Tryz.ntmps99
 go_wp2_with fail;refine(dS hs.cur).mono ?_;rintro r w1 ⟨rfl,h1,m1⟩;go_wp2_with fail;refine(Dw (lo:=0) (hi:=255) (hs.e.move m1 h1) (by omega) H.out).mono ?_;rintro r w2 ⟨rfl,m2⟩;go_wp2_with fail;exact⟨rfl,rfl,hs.tw (m1.trans m2)⟩
theorem Jn{n:Nat}(h:wdF src (blk src k) n (blk src k)=some pl):OpF w0 94 b src k σ 4 pl:=by
 intro w cb cv hs _ _ _ _ _;have H:=hid h;clear h;go_enter Tryz.func94,Tryz.ntmps94
 go_wp2_with fail;refine(Hj hs.e H.out).mono ?_;rintro r w1 ⟨rfl,m1⟩;go_wp2_with fail;exact⟨rfl,rfl,hs.tw m1⟩
theorem Jm{n e i:Nat}{x:ByteArray}{v:Value}(h:wdN src (blk src k) n (blk src k)=some e)(hx:src.extract (blk src k) e=x)(hpl:pl+x.size=e)(hfi:Instr.findNow .string (.string x) (lY 0 σ.ls) 0=some (some (i,v))):OpF w0 94 b src k σ 5 pl:=by
 intro w cb cv hs hb hl _ hf _;have hne:cb≠b:=fun e=>hf.bk 0 (by rw[e];rfl);have H:=hid h;have HX:=hid hx;have HFI:=hid hfi;clear h hx hfi;go_enter Tryz.func94,Tryz.ntmps94
 go_wp2_with fail;refine(CF hs.cur H.out).mono ?_;rintro r w1 ⟨rfl,h1,m1⟩;rw[HX.out];have s1:=hs.move m1 h1;have b1:=hb.aj m1.kp (by simpa using hne);have e4:=b1.at_ 4 _ (QA (show 4<cv.length by rw[hl.len];omega));have f4:=b1.free 4;clear hs hb m1 h1 H HX;go_upto_region 1 with fail
 have k2:Kp [cb] w1 (w1.setCell ⟨cb,4,none⟩ (.string x)):=Kp.setCell _ _ (by simp);have s2:=s1.other k2 (fun y hy=>by simp at hy;rw[hy];exact hf);have b2:=b1.set 4 (.string x) (by rw[hl.len];omega);obtain⟨w2,hw2⟩:∃w2,w2=w1.setCell ⟨cb,4,none⟩ (.string x):=⟨_,rfl⟩;rw[<-hw2] at s2 b2 ⊢;clear hw2 k2 s1 b1 e4 f4 w1;have c9:=s2.c.c9;have e4:=b2.at_ 4 (.string x) (QI (by rw[hl.len];omega));have hlk:∀m,(Instr.lookup 124 (.map (some σ.lb)) (.string x) true).run Tryz.prog (w2.drewN m)=.ok (.tuple #[v,.bool true]) (w2.drewN m):=fun m=>
  nc Tryz.underlying124 Tryz.underlying9 (((Kp.drewN [] w2 m).block _ (s2.r.bk.hi 2 _ rfl) (by simp)).trans s2.r.m9) HFI.out
 go_quiet (fail);have s3:=s2.aj (Kp.drewN [] w2 nq);have b3:=b2.aj (Kp.drewN [] w2 nq) (by simp);obtain⟨w3,hw3⟩:∃w3,w3=w2.drewN nq:=⟨_,rfl⟩;rw[<-hw3] at s3 b3 ⊢;clear hw3 hlk c9 e4 s2 b2;have c1:=s3.cur.c1;have e4:=b3.at_ 4 (.string x) (QI (by rw[hl.len];omega));have hsm:=s3.cur.small;have hle:=s3.cur.le;have hsub:(e:Int)-(x.size:Int)=(pl:Int):=by omega
 have wp:=aa pl (by omega);have HKP:=hid s3.r.kp;clear s3 b3;go_wp2_with fail;go_region_dies
 all_goals exact⟨rfl,rfl,HKP.out.trans (Kp.drew [] _)⟩
theorem Ft{n:Nat}(hw:isW src (blk src k)=true)(h:wdF src (blk src (blk src k)) n (blk src (blk src k))=some pl):OpF w0 95 b src k σ 4 pl:=by
 intro w cb cv hs _ _ _ _ _;have H:=hid h;clear h;go_enter Tryz.func95,Tryz.ntmps95
 go_wp2_with fail;refine(dS hs.cur).mono ?_;rintro r w1 ⟨rfl,h1,m1⟩;go_wp2_with fail;refine(eO h1 hw).mono ?_;rintro r w2 ⟨rfl,h2,m2⟩;go_wp2_with fail;refine(Hj (hs.e.move (m1.trans m2) h2) H.out).mono ?_;rintro r w3 ⟨rfl,m3⟩;go_wp2_with fail;exact⟨rfl,rfl,hs.tw ((m1.trans m2).trans m3)⟩
theorem Nk(h:σ.bs.length=8)(hk:1<=k):OpF w0 92 b src k σ 6 (k-1):=by
 intro w cb cv hs _ _ _ _ _;obtain⟨A8,q8,e8,_,_⟩:=aZ hs.r.o8;have c8:=hs.c.c8;rw[e8,h] at c8;have c1:=hs.cur.c1;have hsm:=hs.cur.small;have hle:=hs.cur.le;obtain⟨k1,hk1⟩:∃k1,k1=k-1:=⟨_,rfl⟩;rw[<-hk1];have e1:(k:Int)-1=(k1:Int):=by omega
 have wk:=aa k1 (by omega);have HKP:=hid hs.r.kp;clear hs e8 h hk1;go_enter Tryz.func92,Tryz.ntmps92
 go_wp2_with fail;exact⟨rfl,rfl,HKP.out⟩
theorem Nj(h:σ.bs=[])(hk:1<=k):OpF w0 93 b src k σ 6 (k-1):=by
 intro w cb cv hs _ _ _ _ _;obtain⟨A8,q8,e8,_,_⟩:=aZ hs.r.o8;have c8:=hs.c.c8;rw[e8,h] at c8;have c1:=hs.cur.c1;have hsm:=hs.cur.small;have hle:=hs.cur.le;obtain⟨k1,hk1⟩:∃k1,k1=k-1:=⟨_,rfl⟩;rw[<-hk1];have e1:(k:Int)-1=(k1:Int):=by omega
 have wk:=aa k1 (by omega);have HKP:=hid hs.r.kp;clear hs e8 h hk1;go_enter Tryz.func93,Tryz.ntmps93
 go_wp2_with fail;exact⟨rfl,rfl,HKP.out⟩
end
structure Arr(w:World)(t:Nat)(f:Nat->Value):Prop where
 lt:t<w.heap.size
 at_:∀j,j<256->w.cell? ⟨t,j,none⟩=some (f j)
 free:∀j,w.frozen? ⟨t,j,none⟩=false
theorem Arr.set{w:World}{t k:Nat}{v:Value}{f:Nat->Value}(h:Arr w t f)(hk:k<256):Arr (w.setCell ⟨t,k,none⟩ v) t (fun j=>if j=k then v else f j):=by
 refine⟨by simpa using h.lt,fun j hj=>?_,fun j=>by simpa using h.free j⟩;by_cases e:j=k
 .subst e;rw[QB rfl];exact aw _ (h.at_ j hj)
 .rw[Qw e];exact(aq _ (fun q=>by injection q with _ q _;exact e q.symm)).trans (h.at_ j hj)
theorem Arr.aj{w w':World}{t:Nat}{f:Nat->Value}{S:List Nat}(h:Arr w t f)(k:Kp S w w')(hn:t∉S):Arr w' t f:=
 ⟨Qx h.lt k.size,fun j hj=>(k.cell (p:=⟨t,j,none⟩) h.lt hn).trans (h.at_ j hj),fun j=>(k.frozen (p:=⟨t,j,none⟩) h.lt hn).trans (h.free j)⟩
theorem Arr.mono{w:World}{t:Nat}{f g:Nat->Value}(h:Arr w t f)(e:∀j,j<256->f j=g j):Arr w t g:=⟨h.lt,fun j hj=>by rw[h.at_ j hj,e j hj],h.free⟩
theorem Arr.of(w:World)(u:Value)(ty:TypeId):Arr (w.alloc (.cells (List.replicate 256 u).toArray ty)) w.heap.size (fun _=>u):=by
 have B:=Bl.alloc w (List.replicate 256 u) ty;exact⟨B.lt,fun j hj=>B.at_ j _ (by rw[Rj,QB hj]),B.free⟩
theorem Tryz.ye:(Tryz.prog.info? 82).map (·.size)=some 2:=by kernel_rfl
theorem zeroB:Tryz.zeroCells212=(List.replicate 256 (Value.bool false)).toArray:=by kernel_rfl
theorem Kp.past{S T:List Nat}{w a c:World}(h:Kp S w a)(k:Kp T a c)(hT:∀x∈T,x∈S\/w.heap.size<=x):Kp S w c:=
 ⟨k.os.trans h.os,k.tape.trans h.tape,k.output.trans h.output,QC h.size k.size,fun i hi hn=>(k.block i (Qx hi h.size) (fun e=>by
   rcases hT i e with q|q
   .exact hn q
   .omega)).trans (h.block i hi hn)⟩
theorem Mv.past{T:List Nat}{b:Nat}{w a c:World}(h:Mv b w a)(k:Kp T a c)(hb:b<w.heap.size)(hT:∀x∈T,w.heap.size<=x):Mv b w c:=
 ⟨h.kp.past k (fun x hx=>.inr (hT x hx)),fun j hj=>(k.cell (p:=⟨b,j,none⟩) (Qx hb h.kp.size) (fun e=>by have:=hT b e;omega)).trans (h.same j hj)⟩
theorem zero256:Tryz.zeroCells174=(List.replicate 256 (Value.int .u8 ((0:Nat):Int))).toArray:=by kernel_rfl
def Ap(fr tt:List UInt8):Nat->Nat->Nat
 | 0,j=>j
 | n+1,j=>if j=(fr[n]?.getD 0).toNat then (tt[n]?.getD 0).toNat else Ap fr tt n j
def pn(fr tt L:List UInt8):List UInt8:=L.map fun u=>(Ap fr tt fr.length u.toNat).toUInt8
theorem Hv(fr tt:List UInt8):∀n j,j<256->Ap fr tt n j<256
 | 0,_,h=>h
 | n+1,j,h=>by
  unfold Ap;split
  .exact Rc _
  .exact Hv fr tt n j h
section
variable {w0 w w':World}{mb sb db lo hi:Nat}{s s':Mst}{σ:Sst}
theorem Gm{ca co:Nat}{fr tt L:List UInt8}(h:Mac w0 w mb sb db s)(h20:w.cell? ⟨ca,co+20,none⟩=some (.string (ba fr)))(h22:w.cell? ⟨ca,co+22,none⟩=some (.string (ba tt)))(hs:s.space=ba L)(hL:L.length<=100000)(hf:fr.length=tt.length)(hfl:fr.length<=2000):Calls Tryz.prog 64 #[.pointer (some ⟨mb,0,none⟩),.pointer (some ⟨ca,co,none⟩)] w fun r w'=>r=.returned (.tuple #[])/\di w0 mb sb db w s w' { s.p with space:=ba (pn fr tt L)}:=by
 have HM:=hid h;have c9:=h.b.at_ 9 _ rfl;rw[hs] at c9;have C9:=hid c9;have HF:=hid hf;clear c9 h hf;go_enter Tryz.func64,Tryz.ntmps64
 go_wp2_with fail;go_quiet (fail);obtain⟨wa,hwa⟩:∃wa,wa=w.drewN nq:=⟨_,rfl⟩;have ka:Kp [] w wa:=by rw[hwa];exact Kp.drewN _ _ _
 rw[<-hwa];clear hwa h20 h22;have A0:=Arr.of wa (Value.int .u8 ((0:Nat):Int)) 174;have kb:=ka.trans (Kp.alloc [] wa (.cells (List.replicate 256 (Value.int .u8 ((0:Nat):Int))).toArray 174));obtain⟨t,ht⟩:∃t,t=wa.heap.size:=⟨_,rfl⟩;have htw:w.heap.size<=t:=by rw[ht];exact ka.size
 obtain⟨wb,hwb⟩:∃wb,wb=wa.alloc (.cells (List.replicate 256 (Value.int .u8 ((0:Nat):Int))).toArray 174):=⟨_,rfl⟩;go_upto_region 2 with fail
 rw[<-ht,<-hwb] at A0;rw[<-hwb] at kb;rw[zero256,<-ht,<-hwb];clear ht hwb ka;go_wp2_with fail;go_loopw [24,7] (fun b _ wr=>∃k:Nat,k<=256/\b=.int .i64 k/\Hid (Arr wr t (fun j=>.int .u8 ((if j<k then j else 0:Nat):Int)))/\Hid (Kp [] w wr)) (fun b _ _=>256-(intOf b).toNat)
 case atStart=>exact⟨0,by omega,rfl,hid A0,hid kb⟩
 case round=>
  obtain⟨k,hk,rfl,HA,HK⟩:=hrel;by_cases hkn:k<256
  .obtain⟨k1,hk1⟩:∃k1:Nat,(k:Int)+1=(k1:Int):=⟨k+1,by omega⟩;have wk:=aa k1 (by omega);have w8:IntKind.u8.wrap (k:Int)=(k:Int):=by rw[IntKind.wrap_u8];omega
   have hc:=HA.out.at_ k hkn;have hf8:=HA.out.free k;go_wp2_with fail;go_round
   case rel=>
    refine⟨k1,by omega,rfl,hid ?_,hid (HK.out.past (T:=[t]) (Kp.setCell _ _ (by simp)) (fun x hx=>by simp at hx;omega))⟩;refine(HA.out.set (v:=.int .u8 (k:Int)) hkn).mono (fun j hj=>?_);by_cases e:j=k
    .rw[QB e,QB (by omega),e]
    .rw[Qw e];by_cases e2:j<k
     .rw[QB e2,QB (by omega)]
     .rw[Qw e2,Qw (by omega)]
   case measure=>simp[intOf];omega
  .have e:k=256:=by omega
   subst e;have A1:Hid (Arr wr t (fun j=>.int .u8 ((Ap fr tt 0 j:Nat):Int))):=hid (HA.out.mono (fun j hj=>by rw[QB hj];rfl));have zf:=ay fr;have zt:=ay tt;clear HA;go_wp2_with fail;go_loopw [34,8] (fun b _ wr=>∃k:Nat,k<=fr.length/\b=.int .i64 k/\Hid (Arr wr t (fun j=>.int .u8 ((Ap fr tt k j:Nat):Int)))/\Hid (Kp [] w wr)) (fun b _ _=>fr.length-(intOf b).toNat)
   case atStart=>exact⟨0,by omega,rfl,A1,HK⟩
   case round=>
    obtain⟨k,hk,rfl,HA2,HK2⟩:=hrel;by_cases hkn:k<fr.length
    .obtain⟨k1,hk1⟩:∃k1:Nat,(k:Int)+1=(k1:Int):=⟨k+1,by omega⟩;have wk:=aa k1 (by omega);have hktt:k<tt.length:=by have:=HF.out;omega
     have b1:k<(ba fr).size:=by rw[zf];exact hkn
     have b2:k<(ba tt).size:=by rw[zt];exact hktt
     obtain⟨x,hx⟩:∃x:Nat,((ba fr)[k]'b1).toNat=x:=⟨_,rfl⟩;obtain⟨y,hy⟩:∃y:Nat,((ba tt)[k]'b2).toNat=y:=⟨_,rfl⟩;have hx256:x<256:=by rw[<-hx];exact Rc _
     have hxi:(x:Int)<256:=by omega
     have FX:Hid (x=(fr[k]?.getD 0).toNat):=hid (by rw[<-hx,QA hkn];rfl);have FY:Hid (y=(tt[k]?.getD 0).toNat):=hid (by rw[<-hy,QA hktt];rfl);have wd:=Kp.drew [] wr;have HA3:=hid (HA2.out.aj wd (by simp));have HK3:=hid (HK2.out.trans wd);obtain⟨w5,hw5⟩:∃w5,w5=wr.drew:=⟨_,rfl⟩;rw[<-hw5] at HA3 HK3;have hc:=HA3.out.at_ x hx256;have hf8:=HA3.out.free x;go_upto_region 10 with fail
     refine az (fun _:World=>True) 7 (by kernel_rfl) ?_;rw[<-hw5];clear hw5 wd HA2 HK2;have hS:(fun _:World=>True) w5:=trivial;iterate 7(refine tkn (v:=?_) rfl (by kernel_rfl) (fun _ _ _ h=>h) ⟨rfl,fun w hSw=>?_⟩ hS ?_;rotate_left;(focus((try dsimp only at hSw);go_simp;(try with_reducible rfl)));(try simp only[Qt,Qs,Qr,Act.put,Qq,Qu,Qv]))
     refine ai (i:=7) (by kernel_rfl) rfl (fun K hK=>?_);go_simp;refine hK.out _ _ (.inl rfl) ?_;clear hK K;refine ax (by kernel_rfl) ?_ _
     have HA4:Hid (Arr (w5.setCell ⟨t,x,none⟩ (.int .u8 (y:Int))) t (fun j=>.int .u8 ((Ap fr tt k1 j:Nat):Int))):=hid ((HA3.out.set (v:=.int .u8 (y:Int)) hx256).mono (fun j hj=>by
      rw[show k1=k+1 by omega];unfold Ap;rw[<-FX.out,<-FY.out];by_cases e:j=x
      .rw[QB e,QB e]
      .rw[Qw e,Qw e]
       cases k<;>rfl))
     have HK4:Hid (Kp [] w (w5.setCell ⟨t,x,none⟩ (.int .u8 (y:Int)))):=hid (HK3.out.past (T:=[t]) (Kp.setCell _ _ (by simp)) (fun x hx=>by simp at hx;omega));obtain⟨w6,hw6⟩:∃w6,w6=w5.setCell ⟨t,x,none⟩ (.int .u8 (y:Int)):=⟨_,rfl⟩;rw[<-hw6] at HA4 HK4 ⊢;clear hw6 hc hf8 HA3 HK3 hS hx hy;go_wp2_with fail;go_round
     case rel=>exact⟨_,_,_,_,_,_,_,_,_,_,_,_,⟨k1,by omega,rfl,HA4,HK4⟩,rfl⟩
     case measure=>simp[intOf];omega
    .have e:k=fr.length:=by omega
     subst e;have hM2:=HM.out.aj HK2.out;have d9:=hM2.b.at_ 9 _ rfl;rw[hs] at d9;have hcv:=run_bytes_of_string (P:=Tryz.prog) wr 9 49 5 (ba L) Tryz.underlying9 Tryz.underlying49 Tryz.underlying5;obtain⟨cp,hcp⟩:∃cp,grownCap wr (ba L).size 0 5=cp:=⟨_,rfl⟩;rw[hcp] at hcv;obtain⟨g,hg⟩:∃g,g=wr.heap.size:=⟨_,rfl⟩;obtain⟨mk,hmk⟩:∃mk,(bytesRow (ba L) cp).size=mk:=⟨_,rfl⟩;rw[hmk,<-hg] at hcv;have hmkl:L.length<=mk:=by rw[<-hmk,bytesRow,Array.size_append,Array.size_map];have:=ay L;simp[ba]
     obtain⟨wc,hwc⟩:∃wc,wc=wr.drew.alloc (.cells (bytesRow (ba L) cp) 5 (mk,mk+1)):=⟨_,rfl⟩;rw[<-hwc] at hcv;have kc:Kp [] wr wc:=by rw[hwc];exact(Kp.drew [] wr).trans (Kp.alloc [] _ _)
     have R0:∀j u,L[j]? = some u->wc.cell? ⟨g,j,none⟩=some (.int .u8 (u.toNat:Int))/\wc.frozen? ⟨g,j,none⟩=false:=fun j u hu=>by
      have hj:=(List.getElem?_eq_some_iff.1 hu).1;have e1:=World.cell?_alloc_mark wr.drew (bytesRow (ba L) cp) 5 (mk,mk+1) j;have e2:=World.frozen?_alloc_mark wr.drew (bytesRow (ba L) cp) 5 mk (mk+1) j;rw[hwc,hg];refine⟨e1.trans ?_,e2.trans ?_⟩
      .rw[bytesRow_at (ba L) cp j (by simpa[ba] using hj)];have:(ba L).data[j]'(by simpa[ba] using hj)=u:=by
        have:=(List.getElem?_eq_some_iff.1 hu).2;simpa[ba] using this
       rw[this]
      .rw[decide_eq_false (by omega),Bool.false_and]
     have hgl:g<wc.heap.size:=by rw[hwc,hg];simp
     have HA3:=hid (HA2.out.aj kc (by simp));have HK3:=hid (HK2.out.trans kc);have hgt:t<g:=by rw[hg];exact HA2.out.lt
     have hgw:w.heap.size<=g:=by rw[hg];exact HK2.out.size
     have HR0:=hid R0;have zL:=ay L;clear hwc hg hmk hcp kc HA2 HK2 R0 hM2;go_wp2_with fail;go_loopw [52,10,11] (fun b _ _ wr=>∃k:Nat,k<=L.length/\b=.int .i64 k/\Hid (Arr wr t (fun j=>.int .u8 ((Ap fr tt fr.length j:Nat):Int)))/\Hid (Kp [] w wr)/\Hid (∀j u,L[j]? = some u->wr.cell? ⟨g,j,none⟩=some (.int .u8 ((if j<k then Ap fr tt fr.length u.toNat else u.toNat:Nat):Int))/\wr.frozen? ⟨g,j,none⟩=false)/\Hid (g<wr.heap.size)) (fun b _ _ _=>L.length-(intOf b).toNat)
     case atStart=>exact⟨0,by omega,rfl,HA3,HK3,hid (fun j u hu=>HR0.out j u hu),hid hgl⟩
     case round=>
      clear HA3 HK3 HR0;obtain⟨k,hk,rfl,HA,HKr,HR,HG⟩:=hrel;by_cases hkn:k<L.length
      .obtain⟨k1,hk1⟩:∃k1:Nat,(k:Int)+1=(k1:Int):=⟨k+1,by omega⟩;have wk:=aa k1 (by omega);obtain⟨u,hu⟩:∃u,L[k]? = some u:=⟨_,QA hkn⟩;obtain⟨r1,r2⟩:=HR.out k u hu;rw[Qw (by omega)] at r1;obtain⟨x,hx⟩:∃x:Nat,x=u.toNat:=⟨_,rfl⟩;have hx256:x<256:=by rw[hx];exact Rc _
       have hxi:(x:Int)<256:=by omega
       rw[<-hx] at r1;have hc:=HA.out.at_ x hx256;obtain⟨y,hy⟩:∃y,y=Ap fr tt fr.length x:=⟨_,rfl⟩;rw[<-hy] at hc;have HU:=hid hu;have HX:=hid hx;have HY:=hid hy;clear hu hx hy;go_wp2_with fail;go_round
       case rel=>
        have ks:Kp [g] wr (wr.setCell ⟨g,k,none⟩ (.int .u8 (y:Int))):=Kp.setCell _ _ (by simp);refine⟨k1,by omega,rfl,hid (HA.out.aj ks (by simp;omega)),hid (HKr.out.past ks (fun q hq=>by simp at hq;omega)),hid (fun j v hv=>?_),hid (by simpa using HG.out)⟩;obtain⟨s1,s2⟩:=HR.out j v hv;refine⟨?_,by simpa using s2⟩;by_cases e:j=k
        .subst e;rw[QB (by omega),aw _ s1];have:v=u:=by rw[HU.out] at hv;injection hv with hv;exact hv.symm
         rw[this,HY.out,HX.out]
        .rw[aq _ (fun q=>by injection q with _ q _;exact e q.symm),s1];by_cases e2:j<k
         .rw[QB e2,QB (by omega)]
         .rw[Qw e2,Qw (by omega)]
       case measure=>simp[intOf];omega
      .have e:k=L.length:=by omega
       subst e;have hM3:=HM.out.aj HKr.out;have d9:=hM3.b.at_ 9 _ rfl;rw[hs] at d9;have f9:=hM3.b.free 9
       have hcb:=run_convert_bytes_back (P:=Tryz.prog) wr 49 9 5 ⟨g,0,none⟩ cp (pn fr tt L) Tryz.underlying49 Tryz.underlying5 Tryz.underlying9 (fun j hj=>by
        have hj':j<L.length:=by simpa[pn] using hj
        have:=(HR.out j _ (QA hj')).1;rw[QB hj'] at this;rw[Addr.add_mid,QH,this]
        congr 2
        have hlt:=Hv fr tt fr.length (L[j]).toNat (Rc _);simp only[pn,List.getElem_map]
        rw[show((Ap fr tt fr.length (L[j]).toNat).toUInt8).toNat=Ap fr tt fr.length (L[j]).toNat from QV hlt])
       rw[show(pn fr tt L).length=L.length by simp[pn]] at hcb;have G1:=hid (di.pre HKr.out (di.set (s':={ s with space:=ba (pn fr tt L)}) hM3 9 (.string (ba (pn fr tt L))) (by omega) rfl rfl))
       change (convert 49 9 (.slice (some ⟨g,0,none⟩) L.length cp)).run Tryz.prog wr=.ok (.string (ba (pn fr tt L))) wr at hcb
       clear hM3 HR HA;go_wp2_with fail;go_end0;exact⟨rfl,G1.out⟩
end
