import Derived.Test.YtiahkfoojjpaaaaGreatDoorT31
set_option maxRecDepth 100000
set_option maxHeartbeats 16000000
set_option linter.all false
namespace Go.Proofs.YtiahkfoojjpaaaaGreatDoor
open Go.RowKit
def OutS {α:Type} (r:Except rf α) (ok:α->Ending->World->Prop) (b:Nat) (w:World) (e:Ending) (w':World):Prop:=
 match r with
 | .ok a=>ok a e w'
 | .error (E,pl)=>e=gN E pl/\Mv b w w'
section
variable {w w':World} {b k:Nat} {src:ByteArray}
theorem tI (x:Int) (hr:Cur w b src k) (h:saw src k x=true) :
  Calls Tryz.prog 143 #[.pointer (some ⟨b,0,none⟩),.int .u8 x] w fun e w'=>e=.returned (.tuple #[])/\Cur w' b src (k+1)/\Mv b w w':=by
 have H:=hid (aX x hr h);clear h;go_enter Tryz.func143,Tryz.ntmps143
 go_wp2_with fail;refine H.out.mono ?_;rintro e w1 ⟨rfl,h1,m1⟩;go_wp2_with fail;go_end0;exact ⟨rfl,h1,m1⟩
theorem uk {s:ByteArray} {f:Nat}:∀ {n k e:Nat},wdE s f n k=.ok e->wdN s f n k=some e
 | 0,_,_,h=>by cases h
 | n+1,k,e,h=>by
  unfold wdE at h;unfold wdN;split at h
  .rename_i hw;rw [Ny hw];split at h
   .cases h
   .rename_i h8;rw [Nr h8];exact uk h
  .rename_i hw;rw [Nr hw];split at h
   .cases h
   .rename_i hk;rw [Nr hk];injection h with h;rw [h]
theorem rp {s:ByteArray} {f:Nat}:∀ {n k pl:Nat},s.size < k+n->k<=s.size->wdE s f n k=.error pl->wdF s f n k=some pl
 | 0,k,_,hn,hk,_=>by omega
 | n+1,k,pl,hn,hk,h=>by
  unfold wdE at h;unfold wdF;split at h
  .rename_i hw;rw [Ny hw];split at h
   .rename_i h8;rw [Ny h8];injection h with h;rw [h]
   .rename_i h8;rw [Nr h8];have:=BO hw;exact rp (by omega) (by omega) h
  .rename_i hw;rw [Nr hw];split at h
   .rename_i hk;rw [Ny hk];injection h with h;rw [h]
   .cases h
theorem Mp {s:ByteArray} {f:Nat}:∀ {n k e:Nat},k<=s.size->wdE s f n k=.ok e->k<=e/\e<=s.size/\(f<=k->f < e/\(k<=f+8->e<=f+8))
 | 0,_,_,_,h=>by cases h
 | n+1,k,e,hk,h=>by
  unfold wdE at h;split at h
  .rename_i hw;have:=BO hw;split at h
   .cases h
   .have:=Mp (by omega) h;omega
  .split at h
   .cases h
   .injection h with h;omega
theorem Fi {s:ByteArray}:∀ (n k:Nat),k<=skB s n k/\(k<=s.size->skB s n k<=s.size)
 | 0,k=>⟨Nw _,fun h=>h⟩
 | n+1,k=>by
  unfold skB;split
  .rename_i h;have:=xq h;have ih:=Fi (s:=s) n (k+1);exact ⟨by omega,fun _=>ih.2 (by omega)⟩
  .exact ⟨Nw _,fun h=>h⟩
theorem qX (s:ByteArray) (k:Nat):k<=blk s k:=(Fi (s:=s) _ k).1
theorem eF {s:ByteArray} {k:Nat} (h:k<=s.size):blk s k<=s.size:=(Fi (s:=s) _ k).2 h
theorem rX {s:ByteArray} {lo hi f:Nat}:∀ {n v k e x:Nat},s.size < k+n->k<=s.size->numE s lo hi f n v k=.ok (e,x)->numN s lo hi f n v k=some (x,e)
 | 0,_,k,_,_,hn,hk,_=>by omega
 | n+1,v,k,e,x,hn,hk,h=>by
  unfold numE at h;unfold numN;split at h
  .rename_i hd;rw [Ny hd];obtain ⟨hlt,_⟩:=BQ hd;split at h
   .cases h
   .rename_i hc;rw [Nr hc];exact rX (by omega) (by omega) h
  .rename_i hd;rw [Nr hd];injection h with h;injection h with h1 h2;rw [h1,h2]
theorem rY {s:ByteArray} {lo hi f:Nat}:∀ {n v k pl:Nat},numE s lo hi f n v k=.error pl->numF s lo hi f n v k=some pl
 | 0,_,_,_,h=>by cases h
 | n+1,v,k,pl,h=>by
  unfold numE at h;unfold numF;split at h
  .rename_i hd;rw [Ny hd];split at h
   .rename_i hc;rw [Ny hc];injection h with h;rw [h]
   .rename_i hc;rw [Nr hc];exact rY h
  .cases h
theorem yQ {s:ByteArray} {lo hi f:Nat}:∀ {n v k e x:Nat},k<=s.size->v<=hi->numE s lo hi f n v k=.ok (e,x)->k<=e/\e<=s.size/\x<=hi/\(n≠0->isD s k=true->k < e/\lo<=x)
 | 0,_,_,_,_,hk,hv,h=>by
  injection h with h;injection h with h1 h2;subst h1 h2;exact ⟨Nw _,hk,hv,fun h=>absurd rfl h⟩
 | n+1,v,k,e,x,hk,hv,h=>by
  unfold numE at h;split at h
  .rename_i hd;obtain ⟨hlt,_⟩:=BQ hd;split at h
   .cases h
   .rename_i hc;have ih:=yQ (by omega) (by omega) h;refine ⟨by omega,ih.2.1,ih.2.2.1,fun _ _=>⟨by omega,?_⟩⟩;by_cases hn:n=0
    .subst hn;injection h with h;injection h with h1 h2;omega
    .cases hd2:isD s (k+1)
     .match n,hn with
      | n+1,_=>
       unfold numE at h;rw [hd2,Nr (by simp)] at h;injection h with h;injection h with h1 h2;omega
     .exact (ih.2.2.2 hn hd2).2
  .rename_i hd;injection h with h;injection h with h1 h2;subst h1 h2;exact ⟨Nw _,hk,hv,fun _ h=>absurd h hd⟩
theorem num_s {lo hi:Nat} (hhi:hi<=1000000) (hr:rh w b src k):Calls Tryz.prog 146 #[.pointer (some ⟨b,0,none⟩),.int .i64 lo,.int .i64 hi] w (OutS (flt4 (Js src lo hi k)) (fun p e w'=>e=.returned (.int .i64 p.2)/\Cur w' b src p.1/\Mv b w w') b w):=by
 unfold Js;have hle:=hr.cur.le
 cases h:numE src lo hi k (src.size+1) 0 k with
 | ok p=>exact rV hr.cur hhi (rX (by omega) hle h)
 | error pl=>exact Bv hr hhi (rY h)
theorem fP {s esc:ByteArray} {k l:Nat} {c:UInt8} (h:lS s esc k=.ok (l,c)):k < l/\l<=s.size:=by
 unfold lS at h;split at h
 .split at h
  .split at h
   .cases h
   .injection h with h;injection h with h1 h2;omega
  .cases h
 .split at h
  .injection h with h;injection h with h1 h2;omega
  .cases h
theorem part_e (esc:ByteArray) (hr:Cur w b src k) (h92:saw src k 92=true) (hk1:k+1 < src.size) {v:Int} (hix:Lib.indexByte esc.data.toList (src[k+1]'hk1)=v) (hv:0<=v) :
  Calls Tryz.prog 138 #[.pointer (some ⟨b,0,none⟩),.string esc] w fun e w'=>e=.returned (.int .u8 ((MW (src[k+1]'hk1)).toNat:Nat))/\Cur w' b src (k+2)/\Mv b w w':=by
 have hsm:=hr.small;have H:=hid h92;obtain ⟨k1,hkk⟩:∃ k1,k1=k+1:=⟨_,rfl⟩;have e1:(k:Int)+1=(k1:Int):=by omega
 have wk:=aa k1 (by omega);have he:((k1:Int) == (src.size:Int))=false:=by rw [Nz];omega
 have hk2:k1 < src.size:=by omega
 obtain ⟨u,hu⟩:∃ u:UInt8,u=src[k+1]'hk1:=⟨_,rfl⟩;rw [<-hu] at hix ⊢;obtain ⟨y,hy⟩:∃ y:Nat,y=u.toNat:=⟨_,rfl⟩;have c5:(⟨src.data⟩:ByteArray)[k1].toNat=y:=by simp only [hkk];rw [hy,hu]
 have HI2:Hid (Lib.indexByte esc.data.toList ((y:Int)).toNat.toUInt8=v):=hid (by rw [hy];simpa using hix);obtain ⟨k2,hkk2⟩:∃ k2,k2=k+2:=⟨_,rfl⟩;have e2:(k:Int)+2=(k2:Int):=by omega
 have wk2:=aa k2 (by omega);have e3:(k2:Int) - 1=(k1:Int):=by omega
 have HY:=hid (And.intro hy (And.intro hkk hkk2));have hk2le:k2<=src.size:=by omega
 have hyv:∀ z:Nat,z < 256->(((y:Int) == (z:Int))=true ↔ u=UInt8.ofNat z):=fun z hz=>by
  rw [beq_iff_eq,hy];constructor
  .intro q;apply UInt8.toNat_inj.1;rw [UInt8.toNat_ofNat'];omega
  .intro q;rw [q,UInt8.toNat_ofNat'];omega
 have HYV:=hid hyv;clear hix hy hkk hkk2 h92 hk1 hyv hu;go_enter Tryz.func138,Tryz.ntmps138
 go_wp2_with fail;refine (df 92 hr H.out).mono ?_;rintro e w1 ⟨rfl,h1,m1⟩;have c0:=h1.c0;have c1:=h1.c1;go_wp2_with fail;go_quiet ((go_at_call 162;exact lu _ _ HI2.out _ _));have h2:=h1.drewN nq;have m2:=m1.trans (Mv.drewN b w1 nq);obtain ⟨w2,hw2⟩:∃ w2,w2=w1.drewN nq:=⟨_,rfl⟩;rw [<-hw2] at h2 m2 ⊢;clear hw2 c0 c1 h1 m1;have c1:=h2.c1;have f1:=h2.free 1;have h3:Cur (w2.setCell ⟨b,1,none⟩ (.int .i64 (k2:Int))) b src k2:=by
  refine ⟨by simpa [World.setCell] using h2.lt,hk2le,h2.small,?_,?_,fun i=>by simpa using h2.free i⟩
  .rw [aq _ (by simp)];exact h2.c0
  .rw [aw _ h2.c1]
 have m3:=m2.trans (Mv.step b w2 (.int .i64 (k2:Int)));go_upto_region 7 with fail
 obtain ⟨w3,hw3⟩:∃ w3,w3=w2.setCell ⟨b,1,none⟩ (.int .i64 (k2:Int)):=⟨_,rfl⟩;rw [<-hw3] at h3 m3 ⊢;clear hw3 c1 f1 h2 m2;have d0:=h3.c0;have d1:=h3.c1;go_quiet (fail);have h4:=h3.drewN nq;have m4:=m3.trans (Mv.drewN b w3 nq);clear d0 d1 h3 m3
 cases g1:((y:Int) == 110)
 .have n1:u≠110:=fun q=>by
   have:=(HYV.out 110 (by omega)).2 q;rw [show ((y:Int) == ((110:Nat):Int))=((y:Int) == 110) from rfl,g1] at this
   cases this
  cases g2:((y:Int) == 116)
  .have n2:u≠116:=fun q=>by
    have:=(HYV.out 116 (by omega)).2 q;rw [show ((y:Int) == ((116:Nat):Int))=((y:Int) == 116) from rfl,g2] at this
    cases this
   have HV:Hid ((MW u).toNat=y):=hid (by unfold MW;rw [Nr n1,Nr n2,HY.out.1]);clear n1 n2;go_wp2_with fail;go_ret;refine ⟨?_,by rw [<-HY.out.2.2];exact h4,m4⟩;rw [HV.out];rfl
  .have n2:u=116:=(HYV.out 116 (by omega)).1 g2;have HV:Hid ((MW u).toNat=9):=hid (by unfold MW;rw [Nr n1,Ny n2];rfl);clear n1 n2;go_wp2_with fail;go_ret;refine ⟨?_,by rw [<-HY.out.2.2];exact h4,m4⟩;rw [HV.out];rfl
 .have n1:u=110:=(HYV.out 110 (by omega)).1 g1;have HV:Hid ((MW u).toNat=10):=hid (by unfold MW;rw [Ny n1];rfl);clear n1;go_wp2_with fail;go_ret;refine ⟨?_,by rw [<-HY.out.2.2];exact h4,m4⟩;rw [HV.out];rfl
theorem Bs (esc:ByteArray) (hr:rh w b src k) (hk:k < src.size):Calls Tryz.prog 138 #[.pointer (some ⟨b,0,none⟩),.string esc] w (OutS (flt4 (lS src esc k)) (fun p e w'=>e=.returned (.int .u8 (p.2.toNat:Nat))/\Cur w' b src p.1/\Mv b w w') b w):=by
 unfold lS
 cases h92:saw src k 92
 .rw [Nr (by simp),dif_pos hk];exact part_v esc hr.cur hk rfl h92
 .rw [Ny rfl];by_cases hk1:k+1 < src.size
  .rw [dif_pos hk1];by_cases hx:Lib.indexByte esc.data.toList (src[k+1]'hk1) < 0
   .rw [Ny hx];refine MG esc hr ?_;unfold rR;rw [h92,dif_pos hk1,xx _ _ hx]
    rfl
   .rw [Nr hx];exact part_e esc hr.cur h92 hk1 rfl (by omega)
  .rw [dif_neg hk1];refine MG esc hr ?_;unfold rR;rw [h92,dif_neg hk1]
   rfl
end
def OpO {α:Type} (r:Except rf α) (w0:World) (ok:α->World->Prop) (e:Ending) (w':World):Prop:=
 match r with
 | .ok a=>e=.returned (.tuple #[])/\ok a w'
 | .error (E,pl)=>e=gN E pl/\Kp [] w0 w'
section
variable {w0 w:World} {b cb k:Nat} {src:ByteArray} {σ:Sst} {cv:List Value}
theorem text_o (hs:Sr w0 w b src k σ) (hb:Bl w cb cv) (hl:Cv cv) (hf:Sr.Far w0 b σ cb) :
  Calls Tryz.prog 96 #[.pointer (some ⟨b,0,none⟩),.pointer (some ⟨cb,0,none⟩)] w (OpO (flt4 (textE src (src.size+1) (blk src k) [])) w0 (fun q w'=>Sr w0 w' b src q.1 σ/\Bl w' cb ((cv.set 9 (.string (src.extract (blk src k) q.1))).set 10 (.string (ba q.2))))):=by
 obtain ⟨f,hfe⟩:∃ f,f=blk src k:=⟨_,rfl⟩;rw [<-hfe];obtain ⟨R,hR⟩:∃ R,R=textE src (src.size+1) f []:=⟨_,rfl⟩;rw [<-hR];have HRE:=hid hR;clear hR;have hne:cb≠b:=fun e=>hf.bk 0 (by rw [e];rfl);have hlen:=hl.len;have HFE:=hid hfe;clear hfe;obtain ⟨i0,hi,hz0,hz1,hz2⟩:=info_parts Tryz.eQ;have HI:=hid (And.intro hi (And.intro hz0 (And.intro hz1 hz2)));clear hi hz0 hz1 hz2;go_enter Tryz.func96,Tryz.ntmps96
 go_wp2_with fail;refine (dG hs.cur).mono ?_;rintro r w1 ⟨rfl,h1,m1⟩;rw [<-HFE.out] at h1;have s1:=hid (hs.move m1 h1);have b1:=hid (hb.aj m1.kp (by simpa using hne));have hC2:=hid s1.out.e.c2;have HF:=hid hf;have hbl:=h1.lt;have hcl:=b1.out.lt;have hsm:=h1.small;have c1:=h1.c1;clear hs hb m1 hf;go_wp2_with fail;go_loopw [5] (fun v wr=>∃ a m acc,f<=a/\src.size+1<=a+m/\acc.length+f<=a/\Cur wr b src a/\Hid (Mv b w1 wr)/\Hid (wr.ownsRow w1.heap.size 5 1 v acc.length (Lib.byteCells acc))/\Hid (R=textE src m a acc)) (fun _ wr=>3000 - im wr b)
 case atStart=>exact ⟨f,src.size+1,[],Nw _,by omega,by simp,h1,hid (Mv.refl _ _),hid ⟨rfl,.inl ⟨rfl,rfl⟩⟩,HRE⟩
 case round=>
  clear HRE c1 h1;obtain ⟨a,m,acc,hka,ham,hak,hrr,HM,HO,HN⟩:=hrel;have HAT:=hid (aC hrr);have hle:=hrr.le
  match m,HN,ham with
  | 0,_,ham=>omega
  | m+1,HN,ham=>
  have hN:=HN.out;unfold textE at hN;clear HN;obtain ⟨A5,cp5,e5,_,_⟩:=dh HO.out;subst e5;have gb:Hid (∀ g,(Value.slice A5 acc.length cp5).ownBlock=some g->w1.heap.size<=g):=hid (fun g hg=>(aA HO.out hg).1);by_cases hst:a < src.size/\saw src a 10=false
  case pos=>
   obtain ⟨hk,h10⟩:=hst;rw [Ny ⟨hk,h10⟩] at hN;have he:((a:Int) == (src.size:Int))=false:=by simp;omega
   go_wp2_with fail;refine (dj hrr he).mono ?_;rintro r w2 ⟨rfl,h2,m2⟩;go_wp2_with fail;refine (df 10 h2 h10).mono ?_;rintro r w3 ⟨rfl,h3,m3⟩;have m13:=m2.trans m3;clear h2 m2 m3 h10 he;have PT:=hid (Bs escT ⟨h3,((HM.out.trans m13).same 2 (by omega)).trans hC2.out⟩ hk);unfold escT at PT
   cases hp:lS src escT a with
   | error pl=>
    rw [hp] at hN;unfold escT at hp;rw [hp] at PT;have HN:=hid hN;clear hN hp;go_wp2_with fail;refine PT.out.mono ?_;rintro r w4 ⟨rfl,m4⟩;go_wp2_with fail;refine ⟨rfl,?_⟩;rw [HN.out];exact ⟨rfl,s1.out.qL (HM.out.trans (m13.trans m4))⟩
   | ok q=>
   obtain ⟨l,x⟩:=q;have hll:=fP hp;rw [hp] at hN;unfold escT at hp;rw [hp] at PT;replace hN:R=textE src m l (acc++[x]):=hN;have HN:=hid hN;clear hN hp;go_wp2_with fail;refine PT.out.mono ?_;rintro r w4 ⟨rfl,h4,m4⟩;have h4:Cur w4 b src l:=h4;have m14:=m13.trans m4;obtain ⟨y,hy⟩:∃ y:Nat,y=x.toNat:=⟨_,rfl⟩;rw [show ((l,x):Nat×UInt8).2.toNat=y from hy.symm];have HY:=hid hy;have HO3:=hid (ai HO.out (fun g hg=>m14.kp.block g (aA HO.out hg).2 (by have:=gb.out g hg;simp;omega)));have hsz:acc.length<=2000:=by omega
   have M14:=hid (HM.out.trans m14);clear hy m14 m13 m4 h3;go_wp2_with (at_builtin;refine dE rfl _ _ 49 rfl w1.heap.size 5 i0 (.int .u8 0) 1 1 Tryz.underlying49 HI.out.1 HI.out.2.1 HI.out.2.2.1 HI.out.2.2.2 rfl (by decide) (.slice A5 acc.length cp5) acc.length (Lib.byteCells acc) rfl (ai HO3.out (fun p hp=>(Kp.alloc [] w4 _).block p (aA HO3.out hp).2 (by simp))) ⟨w4.heap.size,0,none⟩ 1 1 [.int .u8 y] rfl rfl (fun j u hu=>by rw [Addr.add_mid,NJ];exact (Bl.alloc w4 [.int .u8 y] 5).at_ j u hu) (fun u hu=>by simp at hu;subst hu;rfl) (by unfold maxLen;omega) (by omega) (Nx M14.out.kp.size (Kp.alloc [] w4 _).size) (by omega) ?_;intro g4 cap4 w5 ho4 hg4 hor4)
   have ka:=Kp.alloc [] w4 (.cells #[.int .u8 y] 5);have kg:Kp (Value.slice A5 acc.length cp5).ownBlock.toList w4 w5:=(ka.mono (by simp)).trans (aV (S:=(Value.slice A5 acc.length cp5).ownBlock.toList) hg4 (fun q hq=>by rw [hq];simp));have gm:∀ q,q∈(Value.slice A5 acc.length cp5).ownBlock.toList->w1.heap.size<=q:=fun q hq=>gb.out q (by simpa using hq);have h5:=h4.aj kg (fun q=>by have:=gm b q;omega);have M5:Hid (Mv b w1 w5):=hid (M14.out.past kg hbl (fun q hq=>gm q hq))
   have O5:Hid (w5.ownsRow w1.heap.size 5 1 (.slice (some ⟨g4,0,none⟩) (acc.length+1) cap4) (acc++[x]).length (Lib.byteCells (acc++[x]))):=hid (by
    have e1:Lib.byteCells (acc++[x])=Lib.byteCells acc++[.int .u8 y]:=by rw [HY.out];simp [Lib.byteCells]
    rw [e1,Nu]
    exact ho4)
   have HCA:=hid (aC h5);go_round
   case rel=>exact ⟨l,m,acc++[x],by omega,by omega,by simp;omega,h5,M5,O5,HN⟩
   case measure=>rw [HCA.out,HAT.out];omega
  case neg=>
   rw [Nr hst] at hN;have HN:=hid hN;clear hN;obtain ⟨ea,hea⟩:∃ ea,((a:Int) == (src.size:Int))=ea:=⟨_,rfl⟩
   have SW:Hid (ea=false->saw src a 10=true):=hid (fun q=>by
    rw [q,Nz] at hea
    cases h10:saw src a 10
    .exact absurd ⟨by omega,h10⟩ hst
    .rfl)
   clear hst;go_upto_region 3 with fail
   go_cut [24] from 13 (fun v wx=>∃ wz,wz=wx/\v=.bool false/\Cur wz b src a/\Mv b wr wz)
   case first=>
    cases ea
    .have SW1:Hid (saw src a 10=true):=hid (SW.out rfl);clear SW;go_wp2_with fail;refine (dj hrr hea).mono ?_;rintro r w2 ⟨rfl,h2,m2⟩;go_wp2_with fail;refine (df 10 h2 SW1.out).mono ?_;rintro r w3 ⟨rfl,h3,m3⟩;go_wp2_with fail;go_meet
     case rel=>exact ⟨_,rfl,rfl,h3,m2.trans m3⟩
    .go_wp2_with fail;refine (dj hrr hea).mono ?_;rintro r w2 ⟨rfl,h2,m2⟩;go_wp2_with fail;go_meet
     case rel=>exact ⟨_,rfl,rfl,h2,m2⟩
   case rest=>
   obtain ⟨wz,hwz,rfl,h3,m3⟩:=hcut;subst hwz;have O3:=ai HO.out (fun g hg=>m3.kp.block g (aA HO.out hg).2 (by have:=gb.out g hg;simp;omega));have O4:=ai O3 (fun g hg=>(Kp.drew [] _).block g (aA O3 hg).2 (by simp));have hcv:=gR O4;have h4:=h3.drew;have M4:=hid (HM.out.trans (m3.trans (Mv.drew b _)));have B4:=hid ((b1.out.aj M4.out.kp (by simpa using hne)));go_upto_region 5 with fail
   have hS:(fun w':World=>w'.cell? ⟨b,0,none⟩=some (.string src)/\w'.cell? ⟨b,1,none⟩=some (.int .i64 (a:Int))/\(convert 49 9 (.slice A5 acc.length cp5)).run Tryz.prog w'=.ok (.string (ba acc)) w') wz.drew:=⟨h4.c0,h4.c1,hcv⟩;clear O3 O4 hcv h3 m3 HO;refine az (fun w':World=>w'.cell? ⟨b,0,none⟩=some (.string src)/\w'.cell? ⟨b,1,none⟩=some (.int .i64 (a:Int))/\(convert 49 9 (.slice A5 acc.length cp5)).run Tryz.prog w'=.ok (.string (ba acc)) w') 18 (by kernel_rfl) ?_;obtain ⟨w5,hw5⟩:∃ w5,w5=wz.drew:=⟨_,rfl⟩;rw [<-hw5] at hS B4 M4 h4 ⊢;clear hw5;iterate 16 (refine tkn (v:=?_) rfl (by kernel_rfl) (fun _ _ _ h=>h) ⟨rfl,fun w hSw=>?_⟩ hS ?_;rotate_left;(focus ((try dsimp only at hSw);go_simp;(try with_reducible rfl)));(try simp only [Nn,Nk,Nj,Act.put,Ni,Np,Nq]))
   refine ag (i:=16) (by kernel_rfl) rfl (fun K hK=>?_);go_simp;refine hK.out _ _ (.inr hS) ?_;clear hK K;refine ag (i:=17) (by kernel_rfl) rfl (fun K hK=>?_);go_simp;refine hK.out _ _ (.inr hS) ?_;clear hK K;refine ag (i:=18) (by kernel_rfl) rfl (fun K hK=>?_);have p0:=B4.out.at_ 9 _ (Nv (show 9 < cv.length by rw [hlen];omega));have p1:=B4.out.at_ 10 _ (Nv (show 10 < cv.length by rw [hlen];omega));have q0:=B4.out.free 9;have q1:=B4.out.free 10;go_simp;refine hK.out _ _ (.inl rfl) ?_;clear hK K p0 p1 q0 q1 hS;refine ay (by kernel_rfl) ?_ _;have ks:Kp [cb] w5 ((w5.setCell ⟨cb,9,none⟩ (.string (src.extract f a))).setCell ⟨cb,10,none⟩ (.string (ba acc))):=(Kp.setCell _ _ (by simp)).trans (Kp.setCell _ _ (by simp));have B5:Bl ((w5.setCell ⟨cb,9,none⟩ (.string (src.extract f a))).setCell ⟨cb,10,none⟩ (.string (ba acc))) cb ((cv.set 9 (.string (src.extract f a))).set 10 (.string (ba acc))):=(B4.out.set 9 _ (by rw [hlen];omega)).set 10 _ (by rw [Od,hlen];omega)
   have S5:=((s1.out.move M4.out h4).other ks (fun y hy=>by simp at hy;rw [hy];exact HF.out));go_wp2_with fail;refine bodyPost_ret (results_none rfl _ _ _) rfl ?_;rw [HN.out];exact ⟨rfl,S5,B5⟩
end
abbrev PatQ (n:Nat) (bg:Int) (groups deepest:Nat) (xs:List Value):Nat->World->Prop:=fun pb w=>PtR 0 w pb n bg groups deepest xs
theorem PtR.bears {B:Nat} {w:World} {p n groups deepest:Nat} {begin:Int} {xs:List Value} (h:PtR B w p n begin groups deepest xs):∃ g o1 o2,w.heap[p]? = some o1/\w.heap[g]? = some o2/\B<=p/\B<=g/\D8 (PatQ n begin groups deepest xs) p g o1 o2:=by
 obtain ⟨g,c,h1,h2⟩:=h.code;have hg:=aA h2 (g:=g) rfl;obtain ⟨o1,e1⟩:∃ o,w.heap[p]? = some o:=⟨_,Ob h.lt⟩;obtain ⟨o2,e2⟩:∃ o,w.heap[g]? = some o:=⟨_,Ob hg.2⟩;refine ⟨g,o1,o2,e1,e2,h.lo,hg.1,fun w2 q1 q2=>?_⟩;have k1:w2.heap[p]? = w.heap[p]?:=q1.trans e1.symm;have k2:w2.heap[g]? = w.heap[g]?:=q2.trans e2.symm;refine ⟨NI _,aN q1,⟨g,c,(World.cell?_of_block k1).trans h1,aQ (ai h2 (fun k hk=>?_)) (NI _)⟩,(World.cell?_of_block k1).trans h.c1,(World.cell?_of_block k1).trans h.c2,(World.cell?_of_block k1).trans h.c3⟩;have:g=k:=by simpa [Value.ownBlock] using hk
 subst this;exact k2
theorem Tryz.Ez:(Tryz.prog.info? 84).map (·.size)=some 2:=by kernel_rfl
def Ptn.Q (q:Ptn):Nat->World->Prop:=PatQ (1+q.x.pi.len) ((q.x.pi.em 1 0 0).2:Nat) q.G q.x.pi.dd (aW (codeOf q.x.pi))
def PatO (b:Nat) (src:ByteArray) (w:World) (q:Nat×Ptn) (r:Ending) (w':World):Prop:=
 ∃ pb g o1 o2,r=.returned (.agg #[.pointer (some ⟨pb,0,none⟩),.string q.2.txt])/\w'.heap[pb]? = some o1/\w'.heap[g]? = some o2/\w.heap.size<=pb/\w.heap.size<=g/\D8 q.2.Q pb g o1 o2/\Cur w' b src q.1/\Mv b w w'
section
variable {w w':World} {b k:Nat} {src:ByteArray}
theorem pattern_s (hr:rh w b src k) (hw:Nm w) (hbg:b≠4) (h47:saw src k 47=true) {R:Except rf (Nat×Ptn)} (hR:R=(match ptE src (src.size+1) (k+1) with
   | .error pl=>.error (4,pl)
   | .ok e=>match gI (src.extract 0 (e - 1)) (k+1) with
    | .error q=>.error q
    | .ok (G,x)=>.ok (e,⟨src.extract (k+1) (e - 1),G,x⟩))) :
  Calls Tryz.prog 139 #[.pointer (some ⟨b,0,none⟩)] w (OutS R (PatO b src w) b w):=by
 have HRE:=hid hR;have HBG:Hid (4∉[b]):=hid (by simpa using Ne.symm hbg);have HW:=hid hw;have HC2:=hid hr.c2;clear hR hw;replace hr:=hr.cur;have hsm:=hr.small;have hlt:=hr.lt;have k1:=Kp.alloc [] w (.cells #[.pointer none,.string ⟨#[]⟩] 84);have BP:=Bl.alloc w [.pointer none,.string ⟨#[]⟩] 84;obtain ⟨p,hp⟩:∃ p,p=w.heap.size:=⟨_,rfl⟩;obtain ⟨wt,hwp⟩:∃ wt,wt=w.alloc (.cells #[.pointer none,.string ⟨#[]⟩] 84):=⟨_,rfl⟩;have hr1:=hr.aj k1 (by simp);have m1:Mv b w wt:=by rw [hwp];exact ⟨k1.mono (by simp),fun j _=>k1.cell (p:=⟨b,j,none⟩) hlt (by simp)⟩
 have hpb:p≠b:=by omega
 rw [<-hp,<-hwp] at BP;rw [<-hwp] at k1 hr1;have hpw:p < wt.heap.size:=BP.lt;go_enter Tryz.func139,Tryz.ntmps139
 go_upto_region 1 with fail
 rw [<-hp,<-hwp];have HP:=hid hp;clear hp hwp;go_wp2_with fail;refine (tI 47 hr1 h47).mono ?_;rintro r w2 ⟨rfl,hr2,m2⟩;have B2:=BP.aj m2.kp (by simpa using hpb);have m02:=m1.trans m2;have c1:=hr2.c1;clear k1 hr BP hr1 h47 m1 m2;obtain ⟨f,hf⟩:∃ f,f=k+1:=⟨_,rfl⟩;rw [<-hf] at c1 hr2 HRE;obtain ⟨P0,hP0⟩:∃ P0,P0=ptE src (src.size+1) f:=⟨_,rfl⟩;rw [<-hP0] at HRE;have HP0:=hid hP0;clear hP0;have HF:=hid hf;clear hf;go_wp2_with fail;go_loopw [14] (fun _ wr=>∃ a m,f<=a/\src.size+1<=a+m/\Cur wr b src a/\Hid (Mv b w wr)/\Hid (Bl wr p [.pointer none,.string ⟨#[]⟩])/\Hid (P0=ptE src m a)) (fun _ wr=>3000 - im wr b)
 case atStart=>exact ⟨f,src.size+1,Nw _,by omega,hr2,hid m02,hid B2,HP0⟩
 case round=>
  clear hr2 m02 B2 c1 HP0;obtain ⟨a,m,hfa,ham,hrr,HM,HB,HN⟩:=hrel;have HAT:=hid (aC hrr);have hle:=hrr.le
  match m,HN,ham with
  | 0,_,ham=>omega
  | m+1,HN,ham=>
  have hN:=HN.out;unfold ptE at hN;clear HN;by_cases hst:a < src.size/\saw src a 10=false
  case neg=>
   rw [Nr hst] at hN;have HN:=hid hN;have hlv:leaves src a=true:=by
    unfold leaves;by_cases e:a=src.size
    .simp [e]
    .cases h10:saw src a 10
     .exact absurd ⟨by omega,h10⟩ hst
     .simp
   have SF:=hid (AW ⟨hrr,(HM.out.same 2 (by omega)).trans HC2.out⟩ hlv);clear hN hlv hst;go_wp2_with fail;refine SF.out.mono ?_;rintro r w1 ⟨rfl,m1⟩;go_wp2_with fail;refine ⟨rfl,?_⟩;rw [HRE.out,HN.out];exact ⟨rfl,HM.out.trans m1⟩
  obtain ⟨hk,h10⟩:=hst;rw [Ny ⟨hk,h10⟩] at hN
  cases h47:saw src a 47
  case true=>
   rw [h47,Ny rfl] at hN;have HNE:=hid hN;clear hN;have SH:=hid (gX hrr hk h10 h47);clear h10 h47;go_wp2_with fail;refine SH.out.mono ?_;rintro r w1 ⟨rfl,h1,m1⟩;have h1:Cur w1 b src (a+1):=h1;have c1:=h1.c1;have hkl:a<=src.size:=by omega
   have wd:=aa a (by omega);have e1:((a+1:Nat):Int) - 1=(a:Int):=by omega
   obtain ⟨a1,ha1⟩:∃ a1,a1=a+1:=⟨_,rfl⟩;rw [<-ha1] at c1 h1 e1;have B1:=hid (HB.out.aj m1.kp (by simpa using hpb));have M1:=hid (HM.out.trans m1);have HA1:=hid ha1;clear ha1 m1 hrr HM HB;go_upto_region 8 with fail
   have hsz:(src.extract 0 a).size=a:=by rw [ByteArray.size_extract];omega
   have hre:=HRE.out;rw [HNE.out] at hre
   replace hre:R=(match gI (src.extract 0 a) f with
    | .error q=>.error q
    | .ok (G,x)=>.ok (a+1,⟨src.extract f a,G,x⟩)):=hre
   have RG:=rO (src:=src.extract 0 a) (fr:=f) (by omega) (by omega);have hnm:Nm w1.drew:=(HW.out.aj M1.out.kp HBG.out).aj (Kp.drew [] w1) (by simp);have h2:=h1.drew;have hS:(fun w':World=>w'.cell? ⟨b,0,none⟩=some (.string src)) w1.drew:=h2.c0;have B2:=hid (B1.out.aj (Kp.drew [] w1) (by simp));have M2:=hid (M1.out.trans (Mv.drew b w1));clear c1
   cases hrd:gI (src.extract 0 a) f with
   | error q=>
    obtain ⟨E,pl⟩:=q;rw [hrd] at RG hre;have HRE2:=hid hre;have RD:=hid (RG.1 w1.drew hnm);clear RG hre hrd hnm hsz HNE;refine az (fun w':World=>w'.cell? ⟨b,0,none⟩=some (.string src)) 18 (by kernel_rfl) ?_;obtain ⟨w2,hw2⟩:∃ w2,w2=w1.drew:=⟨_,rfl⟩;rw [<-hw2] at hS B2 M2 h2 RD ⊢;clear hw2 B1 M1;iterate 8 (refine tkn (v:=?_) rfl (by kernel_rfl) (fun _ _ _ h=>h) ⟨rfl,fun w hSw=>?_⟩ hS ?_;rotate_left;(focus ((try dsimp only at hSw);go_simp;(try with_reducible rfl)));(try simp only [Nn,Nk,Nj,Act.put,Ni,Np,Nq]))
    refine tk1 9 (v:=?_) rfl (by kernel_rfl) (fun _ _ _ h=>h) ⟨rfl,fun w hSw=>?_⟩ hS ?_;rotate_left;· ((try dsimp only at hSw);go_simp;(try with_reducible rfl))
    (try simp only [Nn,Nk,Nj,Act.put,Ni,Np,Nq])
    refine tk1 10 (v:=?_) rfl (by kernel_rfl) (fun _ _ _ h=>h) ⟨rfl,fun w hSw=>?_⟩ hS ?_;rotate_left;· ((try dsimp only at hSw);go_simp;(try with_reducible rfl))
    (try simp only [Nn,Nk,Nj,Act.put,Ni,Np,Nq])
    refine tk1 11 (v:=?_) rfl (by kernel_rfl) (fun _ _ _ h=>h) ⟨rfl,fun w hSw=>?_⟩ hS ?_;rotate_left;· ((try dsimp only at hSw);go_simp;(try with_reducible rfl))
    (try simp only [Nn,Nk,Nj,Act.put,Ni,Np,Nq])
    refine tk1 12 (v:=?_) rfl (by kernel_rfl) (fun _ _ _ h=>h) ⟨rfl,fun w hSw=>?_⟩ hS ?_;rotate_left;· ((try dsimp only at hSw);go_simp;(try with_reducible rfl))
    (try simp only [Nn,Nk,Nj,Act.put,Ni,Np,Nq])
    refine tk1 13 (v:=?_) rfl (by kernel_rfl) (fun _ _ _ h=>h) ⟨rfl,fun w hSw=>?_⟩ hS ?_;rotate_left;· ((try dsimp only at hSw);go_simp;(try with_reducible rfl))
    (try simp only [Nn,Nk,Nj,Act.put,Ni,Np,Nq])
    refine tk1 14 (v:=?_) rfl (by kernel_rfl) (fun _ _ _ h=>h) ⟨rfl,fun w hSw=>?_⟩ hS ?_;rotate_left;· ((try dsimp only at hSw);go_simp;(try with_reducible rfl))
    (try simp only [Nn,Nk,Nj,Act.put,Ni,Np,Nq])
    refine tk1 15 (v:=?_) rfl (by kernel_rfl) (fun _ _ _ h=>h) ⟨rfl,fun w hSw=>?_⟩ hS ?_;rotate_left;· ((try dsimp only at hSw);go_simp;(try with_reducible rfl))
    (try simp only [Nn,Nk,Nj,Act.put,Ni,Np,Nq])
    refine tk1 16 (v:=?_) rfl (by kernel_rfl) (fun _ _ _ h=>h) ⟨rfl,fun w hSw=>?_⟩ hS ?_;rotate_left;· ((try dsimp only at hSw);go_simp;(try with_reducible rfl))
    (try simp only [Nn,Nk,Nj,Act.put,Ni,Np,Nq])
    refine ag (i:=8) (by kernel_rfl) rfl (fun K hK=>?_);go_simp;refine RD.out.mono ?_;rintro r w3 ⟨rfl,k3⟩;go_simp;exact ⟨rfl,(by rw [HRE2.out];exact ⟨rfl,M2.out.past k3 hlt (by simp)⟩)⟩
   | ok q=>
    obtain ⟨G,x⟩:=q;rw [hrd] at RG hre;have HRE2:=hid hre;obtain ⟨hpg,hl100,hreads⟩:=RG;have RD:=hid (Bh (w:=w1.drew) hnm (by omega) (by omega) (by omega) (by omega) hreads);clear hre hrd hnm hsz HNE hpg hreads;refine az (fun w':World=>w'.cell? ⟨b,0,none⟩=some (.string src)) 18 (by kernel_rfl) ?_;obtain ⟨w2,hw2⟩:∃ w2,w2=w1.drew:=⟨_,rfl⟩;rw [<-hw2] at hS B2 M2 h2 RD ⊢;clear hw2 B1 M1;iterate 8 (refine tkn (v:=?_) rfl (by kernel_rfl) (fun _ _ _ h=>h) ⟨rfl,fun w hSw=>?_⟩ hS ?_;rotate_left;(focus ((try dsimp only at hSw);go_simp;(try with_reducible rfl)));(try simp only [Nn,Nk,Nj,Act.put,Ni,Np,Nq]))
    refine tk1 9 (v:=?_) rfl (by kernel_rfl) (fun _ _ _ h=>h) ⟨rfl,fun w hSw=>?_⟩ hS ?_;rotate_left;· ((try dsimp only at hSw);go_simp;(try with_reducible rfl))
    (try simp only [Nn,Nk,Nj,Act.put,Ni,Np,Nq])
    refine tk1 10 (v:=?_) rfl (by kernel_rfl) (fun _ _ _ h=>h) ⟨rfl,fun w hSw=>?_⟩ hS ?_;rotate_left;· ((try dsimp only at hSw);go_simp;(try with_reducible rfl))
    (try simp only [Nn,Nk,Nj,Act.put,Ni,Np,Nq])
    refine tk1 11 (v:=?_) rfl (by kernel_rfl) (fun _ _ _ h=>h) ⟨rfl,fun w hSw=>?_⟩ hS ?_;rotate_left;· ((try dsimp only at hSw);go_simp;(try with_reducible rfl))
    (try simp only [Nn,Nk,Nj,Act.put,Ni,Np,Nq])
    refine tk1 12 (v:=?_) rfl (by kernel_rfl) (fun _ _ _ h=>h) ⟨rfl,fun w hSw=>?_⟩ hS ?_;rotate_left;· ((try dsimp only at hSw);go_simp;(try with_reducible rfl))
    (try simp only [Nn,Nk,Nj,Act.put,Ni,Np,Nq])
    refine tk1 13 (v:=?_) rfl (by kernel_rfl) (fun _ _ _ h=>h) ⟨rfl,fun w hSw=>?_⟩ hS ?_;rotate_left;· ((try dsimp only at hSw);go_simp;(try with_reducible rfl))
    (try simp only [Nn,Nk,Nj,Act.put,Ni,Np,Nq])
    refine tk1 14 (v:=?_) rfl (by kernel_rfl) (fun _ _ _ h=>h) ⟨rfl,fun w hSw=>?_⟩ hS ?_;rotate_left;· ((try dsimp only at hSw);go_simp;(try with_reducible rfl))
    (try simp only [Nn,Nk,Nj,Act.put,Ni,Np,Nq])
    refine tk1 15 (v:=?_) rfl (by kernel_rfl) (fun _ _ _ h=>h) ⟨rfl,fun w hSw=>?_⟩ hS ?_;rotate_left;· ((try dsimp only at hSw);go_simp;(try with_reducible rfl))
    (try simp only [Nn,Nk,Nj,Act.put,Ni,Np,Nq])
    refine tk1 16 (v:=?_) rfl (by kernel_rfl) (fun _ _ _ h=>h) ⟨rfl,fun w hSw=>?_⟩ hS ?_;rotate_left;· ((try dsimp only at hSw);go_simp;(try with_reducible rfl))
    (try simp only [Nn,Nk,Nj,Act.put,Ni,Np,Nq])
    refine ag (i:=8) (by kernel_rfl) rfl (fun K hK=>?_);go_simp;refine RD.out.mono ?_;rintro r w3 ⟨pb,rfl,pt,k3⟩;have hS3:(fun w':World=>w'.cell? ⟨b,0,none⟩=some (.string src)) w3:=(h2.aj k3 (by simp)).c0;have h3:=h2.aj k3 (by simp);have B3:=hid (B2.out.aj k3 (by simp));have M3:Hid (Mv b w w3):=hid (M2.out.past k3 hlt (by simp));have HPT:=hid pt;have HZ:Hid (w.heap.size<=w2.heap.size):=hid M2.out.kp.size;have HBL:=hid B2.out.lt;clear pt k3 h2 B2 M2;dsimp only;refine hK.out _ _ (.inr hS3) ?_;clear hK K;refine ag (i:=17) (by kernel_rfl) rfl (fun K hK=>?_);go_simp;refine hK.out _ _ (.inr hS3) ?_;clear hK K;refine ag (i:=18) (by kernel_rfl) rfl (fun K hK=>?_);have p0:=B3.out.at_ 0 _ rfl;have p1:=B3.out.at_ 1 _ rfl;have q0:=B3.out.free 0;have q1:=B3.out.free 1;go_simp;refine hK.out _ _ (.inl rfl) ?_;clear hK K p0 p1 q0 q1 hS hS3;refine ay (by kernel_rfl) ?_ _;have B4:Bl ((w3.setCell ⟨p,0,none⟩ (.pointer (some ⟨pb,0,none⟩))).setCell ⟨p,1,none⟩ (.string (src.extract f a))) p [.pointer (some ⟨pb,0,none⟩),.string (src.extract f a)]:=(B3.out.set 0 _ (by simp)).set 1 _ (by simp)
    have ks:Kp [p] w3 ((w3.setCell ⟨p,0,none⟩ (.pointer (some ⟨pb,0,none⟩))).setCell ⟨p,1,none⟩ (.string (src.extract f a))):=(Kp.setCell _ _ (by simp)).trans (Kp.setCell _ _ (by simp));obtain ⟨w4,hw4⟩:∃ w4,w4=(w3.setCell ⟨p,0,none⟩ (.pointer (some ⟨pb,0,none⟩))).setCell ⟨p,1,none⟩ (.string (src.extract f a)):=⟨_,rfl⟩;rw [<-hw4] at B4 ks ⊢;clear hw4;go_wp2_with fail;obtain ⟨g,o1,o2,q1,q2,q3,q4,q5⟩:=HPT.out.bears;have hpp:p < w2.heap.size:=HBL.out;rw [HRE2.out];refine bodyPost_ret (eD (p:=2) (ty:=84) (by rw [Tryz.results139]) _ _ p 0 rfl _ _ B4.range Tryz.underlying84 rfl (by rw [Tryz.Ez];rfl)) rfl ⟨pb,g,o1,o2,rfl,(ks.block pb (aN q1) (by simp;omega)).trans q1,(ks.block g (aN q2) (by simp;omega)).trans q2,by have:=HZ.out;omega,by have:=HZ.out;omega,q5,?_,M3.out.past ks hlt (fun q hq=>by simp at hq;have:=HP.out;omega)⟩;rw [<-HA1.out];exact h3.aj ks (by simpa using Ne.symm hpb)
  case false=>
   rw [h47,Nr (by simp)] at hN
   cases h92:saw src a 92
   case false=>
    rw [h92,Nr (by simp)] at hN;have SH:=hid (gX hrr hk h10 h47);have H92:=hid h92;have HN:=hid hN;clear h10 h47 h92 hN;go_wp2_with fail;refine SH.out.mono ?_;rintro r w1 ⟨rfl,h1,m1⟩;have h1:Cur w1 b src a:=h1;go_wp2_with fail;refine (aX 92 h1 H92.out).mono ?_;rintro r w2 ⟨rfl,h2,m2⟩;have h2:Cur w2 b src a:=h2;have c1:=h2.c1;have f1:=h2.free 1;have B2:=hid ((HB.out.aj (m1.trans m2).kp (by simpa using hpb)).aj (Kp.setCell (S:=[b]) (p:=⟨b,1,none⟩) w2 (.int .i64 ((a:Int)+1)) (by simp)) (by simpa using hpb));go_wp2_with fail;go_round
    case rel=>exact ⟨a+1,m,by omega,by omega,h2.step hk,hid (HM.out.trans ((m1.trans m2).trans (Mv.step _ _ _))),B2,HN⟩
    case measure=>rw [aC (h2.step hk),HAT.out];omega
   case true=>
    rw [h92,Ny rfl] at hN;by_cases hk2:a+1 < src.size/\saw src (a+1) 10=false
    case neg=>
     rw [Nr hk2] at hN;have HN:=hid hN;have hlv:leaves src (a+1)=true:=by
      unfold leaves;by_cases e:a+1=src.size
      .simp [e]
      .cases h10:saw src (a+1) 10
       .exact absurd ⟨by omega,h10⟩ hk2
       .simp
     have SH:=hid (gX hrr hk h10 h47);have H92:=hid h92;have HLV:=hid hlv;clear h10 h47 h92 hN hk2 hlv;go_wp2_with fail;refine SH.out.mono ?_;rintro r w1 ⟨rfl,h1,m1⟩;have h1:Cur w1 b src a:=h1;go_wp2_with fail;refine (aX 92 h1 H92.out).mono ?_;rintro r w2 ⟨rfl,h2,m2⟩;have h2:Cur w2 b src (a+1):=h2;have m12:=m1.trans m2;go_wp2_with fail;refine (My ⟨h2,((HM.out.trans m12).same 2 (by omega)).trans HC2.out⟩ HLV.out).mono ?_;rintro r w3 ⟨rfl,m3⟩;go_wp2_with fail;refine ⟨rfl,?_⟩;rw [HRE.out,HN.out];exact ⟨rfl,HM.out.trans (m12.trans m3)⟩
    rw [Ny hk2] at hN;have SH:=hid (gX hrr hk h10 h47);have H92:=hid h92;have HN:=hid hN;have HK2:=hid hk2;clear h10 h47 h92 hN hk2;go_wp2_with fail;refine SH.out.mono ?_;rintro r w1 ⟨rfl,h1,m1⟩;have h1:Cur w1 b src a:=h1;go_wp2_with fail;refine (aX 92 h1 H92.out).mono ?_;rintro r w2 ⟨rfl,h2,m2⟩;have h2:Cur w2 b src (a+1):=h2;go_wp2_with fail;refine (Mx h2 HK2.out.1 HK2.out.2).mono ?_;rintro r w3 ⟨rfl,h3,m3⟩;have c1:=h3.c1;have f1:=h3.free 1;have m13:=m1.trans (m2.trans m3);have B2:=hid ((HB.out.aj m13.kp (by simpa using hpb)).aj (Kp.setCell (S:=[b]) (p:=⟨b,1,none⟩) w3 (.int .i64 (((a+1:Nat):Int)+1)) (by simp)) (by simpa using hpb));have S3:=hid (h3.step HK2.out.1);have HCA:Hid (im (w3.setCell ⟨b,1,none⟩ (.int .i64 ((a:Int)+1+1))) b=a+1+1):=hid (by simpa using aC S3.out);go_wp2_with fail;go_round
    case rel=>exact ⟨a+1+1,m,by omega,by omega,S3.out,hid (HM.out.trans (m13.trans (Mv.step _ _ _))),B2,HN⟩
    case measure=>rw [HCA.out,HAT.out];omega
theorem om (hr:rh w b src k) (hw:Nm w) (hbg:b≠4):Calls Tryz.prog 139 #[.pointer (some ⟨b,0,none⟩)] w (OutS (patE src k) (PatO b src w) b w):=by
 cases h47:saw src k 47
 .unfold patE;rw [h47,Nr (by simp)];have hlt:=hr.cur.lt;have k1:=Kp.alloc [] w (.cells #[.pointer none,.string ⟨#[]⟩] 84);have m1:Mv b w (w.alloc (.cells #[.pointer none,.string ⟨#[]⟩] 84)):=Mv.alloc hlt _;have EF:=hid (Ce 47 (hr.move m1 (hr.cur.aj k1 (by simp))) h47);go_enter Tryz.func139,Tryz.ntmps139
  go_wp2_with fail;refine EF.out.mono ?_;rintro r w1 ⟨rfl,m2⟩;go_wp2_with fail;exact ⟨rfl,rfl,m1.trans m2⟩
 .refine pattern_s hr hw hbg h47 ?_;unfold patE;rw [h47,Ny rfl]
  cases ptE src (src.size+1) (k+1) with
  | error pl=>rfl
  | ok e=>
   dsimp only
   cases gI (src.extract 0 (e - 1)) (k+1) with
   | error q=>rfl
   | ok q=>rfl
end
