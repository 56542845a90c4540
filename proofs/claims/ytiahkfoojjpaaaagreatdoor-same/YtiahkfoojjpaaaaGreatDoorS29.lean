import Derived.Test.YtiahkfoojjpaaaaGreatDoorS28
set_option maxRecDepth 100000
set_option maxHeartbeats 16000000
set_option linter.all false
namespace Go.Proofs.YtiahkfoojjpaaaaGreatDoor
open Go.RowKit
def OutS{α:Type}(r:Except xV α)(ok:α->Ending->World->Prop)(b:Nat)(w:World)(e:Ending)(w':World):Prop:=
 match r with
 | .ok a=>ok a e w'
 | .error (E,pl)=>e=iG E pl/\Mv b w w'
section
variable {w w':World}{b k:Nat}{src:ByteArray}
theorem xj(x:Int)(hr:Cur w b src k)(h:saw src k x=true):Calls Tryz.prog 143 #[.pointer (some ⟨b,0,none⟩),.int .u8 x] w fun e w'=>e=.returned (.tuple #[])/\Cur w' b src (k+1)/\Mv b w w':=by
 have H:=hid (df x hr h);clear h;go_enter Tryz.func143,Tryz.ntmps143
 go_wp2_with fail;refine H.out.mono ?_;rintro e w1 ⟨rfl,h1,m1⟩;go_wp2_with fail;go_end0;exact⟨rfl,h1,m1⟩
theorem xY{s:ByteArray}{f:Nat}:∀{n k e:Nat},wdE s f n k=.ok e->wdN s f n k=some e
 | 0,_,_,h=>by cases h
 | n+1,k,e,h=>by
  unfold wdE at h;unfold wdN;split at h
  .rename_i hw;rw[QB hw];split at h
   .cases h
   .rename_i h8;rw[Qw h8];exact xY h
  .rename_i hw;rw[Qw hw];split at h
   .cases h
   .rename_i hk;rw[Qw hk];injection h with h;rw[h]
theorem tZ{s:ByteArray}{f:Nat}:∀{n k pl:Nat},s.size<k+n->k<=s.size->wdE s f n k=.error pl->wdF s f n k=some pl
 | 0,k,_,hn,hk,_=>by omega
 | n+1,k,pl,hn,hk,h=>by
  unfold wdE at h;unfold wdF;split at h
  .rename_i hw;rw[QB hw];split at h
   .rename_i h8;rw[QB h8];injection h with h;rw[h]
   .rename_i h8;rw[Qw h8];have:=qq hw;exact tZ (by omega) (by omega) h
  .rename_i hw;rw[Qw hw];split at h
   .rename_i hk;rw[QB hk];injection h with h;rw[h]
   .cases h
theorem Pq{s:ByteArray}{f:Nat}:∀{n k e:Nat},k<=s.size->wdE s f n k=.ok e->k<=e/\e<=s.size/\(f<=k->f<e/\(k<=f+8->e<=f+8))
 | 0,_,_,_,h=>by cases h
 | n+1,k,e,hk,h=>by
  unfold wdE at h;split at h
  .rename_i hw;have:=qq hw;split at h
   .cases h
   .have:=Pq (by omega) h;omega
  .split at h
   .cases h
   .injection h with h;omega
theorem Im{s:ByteArray}:∀(n k:Nat),k<=skB s n k/\(k<=s.size->skB s n k<=s.size)
 | 0,k=>⟨QD _,fun h=>h⟩
 | n+1,k=>by
  unfold skB;split
  .rename_i h;have:=tp h;have ih:=Im (s:=s) n (k+1);exact⟨by omega,fun _=>ih.2 (by omega)⟩
  .exact⟨QD _,fun h=>h⟩
theorem lF(s:ByteArray)(k:Nat):k<=blk s k:=(Im (s:=s) _ k).1
theorem dm{s:ByteArray}{k:Nat}(h:k<=s.size):blk s k<=s.size:=(Im (s:=s) _ k).2 h
theorem uK{s:ByteArray}{lo hi f:Nat}:∀{n v k e x:Nat},s.size<k+n->k<=s.size->uM s lo hi f n v k=.ok (e,x)->Nu s lo hi f n v k=some (x,e)
 | 0,_,k,_,_,hn,hk,_=>by omega
 | n+1,v,k,e,x,hn,hk,h=>by
  unfold uM at h;unfold Nu;split at h
  .rename_i hd;rw[QB hd];obtain⟨hlt,_⟩:=tn hd;split at h
   .cases h
   .rename_i hc;rw[Qw hc];exact uK (by omega) (by omega) h
  .rename_i hd;rw[Qw hd];injection h with h;injection h with h1 h2;rw[h1,h2]
theorem uL{s:ByteArray}{lo hi f:Nat}:∀{n v k pl:Nat},uM s lo hi f n v k=.error pl->numF s lo hi f n v k=some pl
 | 0,_,_,_,h=>by cases h
 | n+1,v,k,pl,h=>by
  unfold uM at h;unfold numF;split at h
  .rename_i hd;rw[QB hd];split at h
   .rename_i hc;rw[QB hc];injection h with h;rw[h]
   .rename_i hc;rw[Qw hc];exact uL h
  .cases h
theorem Bc{s:ByteArray}{lo hi f:Nat}:∀{n v k e x:Nat},k<=s.size->v<=hi->uM s lo hi f n v k=.ok (e,x)->k<=e/\e<=s.size/\x<=hi/\(n≠0->isD s k=true->k<e/\lo<=x)
 | 0,_,_,_,_,hk,hv,h=>by
  injection h with h;injection h with h1 h2;subst h1 h2;exact⟨QD _,hk,hv,fun h=>absurd rfl h⟩
 | n+1,v,k,e,x,hk,hv,h=>by
  unfold uM at h;split at h
  .rename_i hd;obtain⟨hlt,_⟩:=tn hd;split at h
   .cases h
   .rename_i hc;have ih:=Bc (by omega) (by omega) h;refine⟨by omega,ih.2.1,ih.2.2.1,fun _ _=>⟨by omega,?_⟩⟩;by_cases hn:n=0
    .subst hn;injection h with h;injection h with h1 h2;omega
    .cases hd2:isD s (k+1)
     .match n,hn with
      | n+1,_=>
       unfold uM at h;rw[hd2,Qw (by simp)] at h;injection h with h;injection h with h1 h2;omega
     .exact(ih.2.2.2 hn hd2).2
  .rename_i hd;injection h with h;injection h with h1 h2;subst h1 h2;exact⟨QD _,hk,hv,fun _ h=>absurd h hd⟩
theorem num_s{lo hi:Nat}(hhi:hi<=1000000)(hr:tU w b src k):Calls Tryz.prog 146 #[.pointer (some ⟨b,0,none⟩),.int .i64 lo,.int .i64 hi] w (OutS (flt4 (pZ src lo hi k)) (fun p e w'=>e=.returned (.int .i64 p.2)/\Cur w' b src p.1/\Mv b w w') b w):=by
 unfold pZ;have hle:=hr.cur.le
 cases h:uM src lo hi k (src.size+1) 0 k with
 | ok p=>exact uJ hr.cur hhi (uK (by omega) hle h)
 | error pl=>exact Dw hr hhi (uL h)
theorem dC{s esc:ByteArray}{k l:Nat}{c:UInt8}(h:gX s esc k=.ok (l,c)):k<l/\l<=s.size:=by
 unfold gX at h;split at h
 .split at h
  .split at h
   .cases h
   .injection h with h;injection h with h1 h2;omega
  .cases h
 .split at h
  .injection h with h;injection h with h1 h2;omega
  .cases h
theorem part_e(esc:ByteArray)(hr:Cur w b src k)(h92:saw src k 92=true)(hk1:k+1<src.size){v:Int}(hix:Lib.indexByte esc.data.toList (src[k+1]'hk1)=v)(hv:0<=v):Calls Tryz.prog 138 #[.pointer (some ⟨b,0,none⟩),.string esc] w fun e w'=>e=.returned (.int .u8 ((Qc (src[k+1]'hk1)).toNat:Nat))/\Cur w' b src (k+2)/\Mv b w w':=by
 have hsm:=hr.small;have H:=hid h92;obtain⟨k1,hkk⟩:∃k1,k1=k+1:=⟨_,rfl⟩;have e1:(k:Int)+1=(k1:Int):=by omega
 have wk:=aa k1 (by omega);have he:((k1:Int)==(src.size:Int))=false:=by rw[Qz];omega
 have hk2:k1<src.size:=by omega
 obtain⟨u,hu⟩:∃u:UInt8,u=src[k+1]'hk1:=⟨_,rfl⟩;rw[<-hu] at hix ⊢;obtain⟨y,hy⟩:∃y:Nat,y=u.toNat:=⟨_,rfl⟩;have c5:(⟨src.data⟩:ByteArray)[k1].toNat=y:=by simp only[hkk];rw[hy,hu]
 have HI2:Hid (Lib.indexByte esc.data.toList ((y:Int)).toNat.toUInt8=v):=hid (by rw[hy];simpa using hix);obtain⟨k2,hkk2⟩:∃k2,k2=k+2:=⟨_,rfl⟩;have e2:(k:Int)+2=(k2:Int):=by omega
 have wk2:=aa k2 (by omega);have e3:(k2:Int)-1=(k1:Int):=by omega
 have HY:=hid (And.intro hy (And.intro hkk hkk2));have hk2le:k2<=src.size:=by omega
 have hyv:∀z:Nat,z<256->(((y:Int)==(z:Int))=true ↔ u=UInt8.ofNat z):=fun z hz=>by
  rw[beq_iff_eq,hy];constructor
  .intro q;apply UInt8.toNat_inj.1;rw[UInt8.toNat_ofNat'];omega
  .intro q;rw[q,UInt8.toNat_ofNat'];omega
 have HYV:=hid hyv;clear hix hy hkk hkk2 h92 hk1 hyv hu;go_enter Tryz.func138,Tryz.ntmps138
 go_wp2_with fail;refine(dk 92 hr H.out).mono ?_;rintro e w1 ⟨rfl,h1,m1⟩;have c0:=h1.c0;have c1:=h1.c1;go_wp2_with fail;go_quiet ((go_at_call 162;exact nH _ _ HI2.out _ _));have h2:=h1.drewN nq;have m2:=m1.trans (Mv.drewN b w1 nq);obtain⟨w2,hw2⟩:∃w2,w2=w1.drewN nq:=⟨_,rfl⟩;rw[<-hw2] at h2 m2 ⊢;clear hw2 c0 c1 h1 m1;have c1:=h2.c1;have f1:=h2.free 1;have h3:Cur (w2.setCell ⟨b,1,none⟩ (.int .i64 (k2:Int))) b src k2:=by
  refine⟨by simpa[World.setCell] using h2.lt,hk2le,h2.small,?_,?_,fun i=>by simpa using h2.free i⟩
  .rw[aq _ (by simp)];exact h2.c0
  .rw[aw _ h2.c1]
 have m3:=m2.trans (Mv.step b w2 (.int .i64 (k2:Int)));go_upto_region 7 with fail
 obtain⟨w3,hw3⟩:∃w3,w3=w2.setCell ⟨b,1,none⟩ (.int .i64 (k2:Int)):=⟨_,rfl⟩;rw[<-hw3] at h3 m3 ⊢;clear hw3 c1 f1 h2 m2;have d0:=h3.c0;have d1:=h3.c1;go_quiet (fail);have h4:=h3.drewN nq;have m4:=m3.trans (Mv.drewN b w3 nq);clear d0 d1 h3 m3
 cases g1:((y:Int)==110)
 .have n1:u≠110:=fun q=>by
   have:=(HYV.out 110 (by omega)).2 q;rw[show((y:Int)==((110:Nat):Int))=((y:Int)==110) from rfl,g1] at this
   cases this
  cases g2:((y:Int)==116)
  .have n2:u≠116:=fun q=>by
    have:=(HYV.out 116 (by omega)).2 q;rw[show((y:Int)==((116:Nat):Int))=((y:Int)==116) from rfl,g2] at this
    cases this
   have HV:Hid ((Qc u).toNat=y):=hid (by unfold Qc;rw[Qw n1,Qw n2,HY.out.1]);clear n1 n2;go_wp2_with fail;go_ret;refine⟨?_,by rw[<-HY.out.2.2];exact h4,m4⟩;rw[HV.out];rfl
  .have n2:u=116:=(HYV.out 116 (by omega)).1 g2;have HV:Hid ((Qc u).toNat=9):=hid (by unfold Qc;rw[Qw n1,QB n2];rfl);clear n1 n2;go_wp2_with fail;go_ret;refine⟨?_,by rw[<-HY.out.2.2];exact h4,m4⟩;rw[HV.out];rfl
 .have n1:u=110:=(HYV.out 110 (by omega)).1 g1;have HV:Hid ((Qc u).toNat=10):=hid (by unfold Qc;rw[QB n1];rfl);clear n1;go_wp2_with fail;go_ret;refine⟨?_,by rw[<-HY.out.2.2];exact h4,m4⟩;rw[HV.out];rfl
theorem Dt(esc:ByteArray)(hr:tU w b src k)(hk:k<src.size):Calls Tryz.prog 138 #[.pointer (some ⟨b,0,none⟩),.string esc] w (OutS (flt4 (gX src esc k)) (fun p e w'=>e=.returned (.int .u8 (p.2.toNat:Nat))/\Cur w' b src p.1/\Mv b w w') b w):=by
 unfold gX
 cases h92:saw src k 92
 .rw[Qw (by simp),dif_pos hk];exact part_v esc hr.cur hk rfl h92
 .rw[QB rfl];by_cases hk1:k+1<src.size
  .rw[dif_pos hk1];by_cases hx:Lib.indexByte esc.data.toList (src[k+1]'hk1)<0
   .rw[QB hx];refine PK esc hr ?_;unfold uG;rw[h92,dif_pos hk1,ze _ _ hx]
    rfl
   .rw[Qw hx];exact part_e esc hr.cur h92 hk1 rfl (by omega)
  .rw[dif_neg hk1];refine PK esc hr ?_;unfold uG;rw[h92,dif_neg hk1]
   rfl
end
def OpO{α:Type}(r:Except xV α)(w0:World)(ok:α->World->Prop)(e:Ending)(w':World):Prop:=
 match r with
 | .ok a=>e=.returned (.tuple #[])/\ok a w'
 | .error (E,pl)=>e=iG E pl/\Kp [] w0 w'
section
variable {w0 w:World}{b cb k:Nat}{src:ByteArray}{σ:Sst}{cv:List Value}
theorem text_o(hs:Sr w0 w b src k σ)(hb:Bl w cb cv)(hl:Cv cv)(hf:Sr.Far w0 b σ cb):Calls Tryz.prog 96 #[.pointer (some ⟨b,0,none⟩),.pointer (some ⟨cb,0,none⟩)] w (OpO (flt4 (fP src (src.size+1) (blk src k) [])) w0 (fun q w'=>Sr w0 w' b src q.1 σ/\Bl w' cb ((cv.set 9 (.string (src.extract (blk src k) q.1))).set 10 (.string (ba q.2))))):=by
 obtain⟨f,hfe⟩:∃f,f=blk src k:=⟨_,rfl⟩;rw[<-hfe];obtain⟨R,hR⟩:∃R,R=fP src (src.size+1) f []:=⟨_,rfl⟩;rw[<-hR];have HRE:=hid hR;clear hR;have hne:cb≠b:=fun e=>hf.bk 0 (by rw[e];rfl);have hlen:=hl.len;have HFE:=hid hfe;clear hfe;obtain⟨i0,hi,hz0,hz1,hz2⟩:=info_parts Tryz.infoByte;have HI:=hid (And.intro hi (And.intro hz0 (And.intro hz1 hz2)));clear hi hz0 hz1 hz2;go_enter Tryz.func96,Tryz.ntmps96
 go_wp2_with fail;refine(dS hs.cur).mono ?_;rintro r w1 ⟨rfl,h1,m1⟩;rw[<-HFE.out] at h1;have s1:=hid (hs.move m1 h1);have b1:=hid (hb.aj m1.kp (by simpa using hne));have hC2:=hid s1.out.e.c2;have HF:=hid hf;have hbl:=h1.lt;have hcl:=b1.out.lt;have hsm:=h1.small;have c1:=h1.c1;clear hs hb m1 hf;go_wp2_with fail;go_loopw [5] (fun v wr=>∃a m acc,f<=a/\src.size+1<=a+m/\acc.length+f<=a/\Cur wr b src a/\Hid (Mv b w1 wr)/\Hid (wr.ownsRow w1.heap.size 5 1 v acc.length (Lib.byteCells acc))/\Hid (R=fP src m a acc)) (fun _ wr=>3000-jc wr b)
 case atStart=>exact⟨f,src.size+1,[],QD _,by omega,by simp,h1,hid (Mv.refl _ _),hid ⟨rfl,.inl ⟨rfl,rfl⟩⟩,HRE⟩
 case round=>
  clear HRE c1 h1;obtain⟨a,m,acc,hka,ham,hak,hrr,HM,HO,HN⟩:=hrel;have HAT:=hid (aE hrr);have hle:=hrr.le
  match m,HN,ham with
  | 0,_,ham=>omega
  | m+1,HN,ham=>
  have hN:=HN.out;unfold fP at hN;clear HN;obtain⟨A5,cp5,e5,_,_⟩:=aZ HO.out;subst e5;have gb:Hid (∀g,(Value.slice A5 acc.length cp5).ownBlock=some g->w1.heap.size<=g):=hid (fun g hg=>(aA HO.out hg).1);by_cases hst:a<src.size/\saw src a 10=false
  case pos=>
   obtain⟨hk,h10⟩:=hst;rw[QB ⟨hk,h10⟩] at hN;have he:((a:Int)==(src.size:Int))=false:=by simp;omega
   go_wp2_with fail;refine(du hrr he).mono ?_;rintro r w2 ⟨rfl,h2,m2⟩;go_wp2_with fail;refine(dk 10 h2 h10).mono ?_;rintro r w3 ⟨rfl,h3,m3⟩;have m13:=m2.trans m3;clear h2 m2 m3 h10 he;have PT:=hid (Dt Qd ⟨h3,((HM.out.trans m13).same 2 (by omega)).trans hC2.out⟩ hk);unfold Qd at PT
   cases hp:gX src Qd a with
   | error pl=>
    rw[hp] at hN;unfold Qd at hp;rw[hp] at PT;have HN:=hid hN;clear hN hp;go_wp2_with fail;refine PT.out.mono ?_;rintro r w4 ⟨rfl,m4⟩;go_wp2_with fail;refine⟨rfl,?_⟩;rw[HN.out];exact⟨rfl,s1.out.tw (HM.out.trans (m13.trans m4))⟩
   | ok q=>
   obtain⟨l,x⟩:=q;have hll:=dC hp;rw[hp] at hN;unfold Qd at hp;rw[hp] at PT;replace hN:R=fP src m l (acc++[x]):=hN;have HN:=hid hN;clear hN hp;go_wp2_with fail;refine PT.out.mono ?_;rintro r w4 ⟨rfl,h4,m4⟩;have h4:Cur w4 b src l:=h4;have m14:=m13.trans m4;obtain⟨y,hy⟩:∃y:Nat,y=x.toNat:=⟨_,rfl⟩;rw[show((l,x):Nat×UInt8).2.toNat=y from hy.symm];have HY:=hid hy;have HO3:=hid (ag HO.out (fun g hg=>m14.kp.block g (aA HO.out hg).2 (by have:=gb.out g hg;simp;omega)));have hsz:acc.length<=2000:=by omega
   have M14:=hid (HM.out.trans m14);clear hy m14 m13 m4 h3;go_wp2_with (at_builtin;refine dP rfl _ _ 49 rfl w1.heap.size 5 i0 (.int .u8 0) 1 1 Tryz.underlying49 HI.out.1 HI.out.2.1 HI.out.2.2.1 HI.out.2.2.2 rfl (by decide) (.slice A5 acc.length cp5) acc.length (Lib.byteCells acc) rfl (ag HO3.out (fun p hp=>(Kp.alloc [] w4 _).block p (aA HO3.out hp).2 (by simp))) ⟨w4.heap.size,0,none⟩ 1 1 [.int .u8 y] rfl rfl (fun j u hu=>by rw[Addr.add_mid,QH];exact(Bl.alloc w4 [.int .u8 y] 5).at_ j u hu) (fun u hu=>by simp at hu;subst hu;rfl) (by unfold maxLen;omega) (by omega) (QC M14.out.kp.size (Kp.alloc [] w4 _).size) (by omega) ?_;intro g4 cap4 w5 ho4 hg4 hor4)
   have ka:=Kp.alloc [] w4 (.cells #[.int .u8 y] 5);have kg:Kp (Value.slice A5 acc.length cp5).ownBlock.toList w4 w5:=(ka.mono (by simp)).trans (aX (S:=(Value.slice A5 acc.length cp5).ownBlock.toList) hg4 (fun q hq=>by rw[hq];simp));have gm:∀q,q∈(Value.slice A5 acc.length cp5).ownBlock.toList->w1.heap.size<=q:=fun q hq=>gb.out q (by simpa using hq);have h5:=h4.aj kg (fun q=>by have:=gm b q;omega);have M5:Hid (Mv b w1 w5):=hid (M14.out.past kg hbl (fun q hq=>gm q hq))
   have O5:Hid (w5.ownsRow w1.heap.size 5 1 (.slice (some ⟨g4,0,none⟩) (acc.length+1) cap4) (acc++[x]).length (Lib.byteCells (acc++[x]))):=hid (by
    have e1:Lib.byteCells (acc++[x])=Lib.byteCells acc++[.int .u8 y]:=by rw[HY.out];simp[Lib.byteCells]
    rw[e1,Qy]
    exact ho4)
   have HCA:=hid (aE h5);go_round
   case rel=>exact⟨l,m,acc++[x],by omega,by omega,by simp;omega,h5,M5,O5,HN⟩
   case measure=>rw[HCA.out,HAT.out];omega
  case neg=>
   rw[Qw hst] at hN;have HN:=hid hN;clear hN;obtain⟨ea,hea⟩:∃ea,((a:Int)==(src.size:Int))=ea:=⟨_,rfl⟩
   have SW:Hid (ea=false->saw src a 10=true):=hid (fun q=>by
    rw[q,Qz] at hea
    cases h10:saw src a 10
    .exact absurd ⟨by omega,h10⟩ hst
    .rfl)
   clear hst;go_upto_region 3 with fail
   go_cut [24] from 13 (fun v wx=>∃wz,wz=wx/\v=.bool false/\Cur wz b src a/\Mv b wr wz)
   case first=>
    cases ea
    .have SW1:Hid (saw src a 10=true):=hid (SW.out rfl);clear SW;go_wp2_with fail;refine(du hrr hea).mono ?_;rintro r w2 ⟨rfl,h2,m2⟩;go_wp2_with fail;refine(dk 10 h2 SW1.out).mono ?_;rintro r w3 ⟨rfl,h3,m3⟩;go_wp2_with fail;go_meet
     case rel=>exact⟨_,rfl,rfl,h3,m2.trans m3⟩
    .go_wp2_with fail;refine(du hrr hea).mono ?_;rintro r w2 ⟨rfl,h2,m2⟩;go_wp2_with fail;go_meet
     case rel=>exact⟨_,rfl,rfl,h2,m2⟩
   case rest=>
   obtain⟨wz,hwz,rfl,h3,m3⟩:=hcut;subst hwz;have O3:=ag HO.out (fun g hg=>m3.kp.block g (aA HO.out hg).2 (by have:=gb.out g hg;simp;omega));have O4:=ag O3 (fun g hg=>(Kp.drew [] _).block g (aA O3 hg).2 (by simp));have hcv:=iC O4;have h4:=h3.drew;have M4:=hid (HM.out.trans (m3.trans (Mv.drew b _)));have B4:=hid ((b1.out.aj M4.out.kp (by simpa using hne)));go_upto_region 5 with fail
   have hS:(fun w':World=>w'.cell? ⟨b,0,none⟩=some (.string src)/\w'.cell? ⟨b,1,none⟩=some (.int .i64 (a:Int))/\(convert 49 9 (.slice A5 acc.length cp5)).run Tryz.prog w'=.ok (.string (ba acc)) w') wz.drew:=⟨h4.c0,h4.c1,hcv⟩;clear O3 O4 hcv h3 m3 HO;refine az (fun w':World=>w'.cell? ⟨b,0,none⟩=some (.string src)/\w'.cell? ⟨b,1,none⟩=some (.int .i64 (a:Int))/\(convert 49 9 (.slice A5 acc.length cp5)).run Tryz.prog w'=.ok (.string (ba acc)) w') 18 (by kernel_rfl) ?_;obtain⟨w5,hw5⟩:∃w5,w5=wz.drew:=⟨_,rfl⟩;rw[<-hw5] at hS B4 M4 h4 ⊢;clear hw5;iterate 16(refine tkn (v:=?_) rfl (by kernel_rfl) (fun _ _ _ h=>h) ⟨rfl,fun w hSw=>?_⟩ hS ?_;rotate_left;(focus((try dsimp only at hSw);go_simp;(try with_reducible rfl)));(try simp only[Qt,Qs,Qr,Act.put,Qq,Qu,Qv]))
   refine ai (i:=16) (by kernel_rfl) rfl (fun K hK=>?_);go_simp;refine hK.out _ _ (.inr hS) ?_;clear hK K;refine ai (i:=17) (by kernel_rfl) rfl (fun K hK=>?_);go_simp;refine hK.out _ _ (.inr hS) ?_;clear hK K;refine ai (i:=18) (by kernel_rfl) rfl (fun K hK=>?_);have p0:=B4.out.at_ 9 _ (QA (show 9<cv.length by rw[hlen];omega));have p1:=B4.out.at_ 10 _ (QA (show 10<cv.length by rw[hlen];omega));have q0:=B4.out.free 9;have q1:=B4.out.free 10;go_simp;refine hK.out _ _ (.inl rfl) ?_;clear hK K p0 p1 q0 q1 hS;refine ax (by kernel_rfl) ?_ _;have ks:Kp [cb] w5 ((w5.setCell ⟨cb,9,none⟩ (.string (src.extract f a))).setCell ⟨cb,10,none⟩ (.string (ba acc))):=(Kp.setCell _ _ (by simp)).trans (Kp.setCell _ _ (by simp));have B5:Bl ((w5.setCell ⟨cb,9,none⟩ (.string (src.extract f a))).setCell ⟨cb,10,none⟩ (.string (ba acc))) cb ((cv.set 9 (.string (src.extract f a))).set 10 (.string (ba acc))):=(B4.out.set 9 _ (by rw[hlen];omega)).set 10 _ (by rw[Rg,hlen];omega)
   have S5:=((s1.out.move M4.out h4).other ks (fun y hy=>by simp at hy;rw[hy];exact HF.out));go_wp2_with fail;refine bodyPost_ret (results_none rfl _ _ _) rfl ?_;rw[HN.out];exact⟨rfl,S5,B5⟩
end
