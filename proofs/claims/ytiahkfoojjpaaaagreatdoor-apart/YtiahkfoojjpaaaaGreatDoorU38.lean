import Derived.Test.YtiahkfoojjpaaaaGreatDoorU32
set_option maxRecDepth 100000
set_option maxHeartbeats 16000000
set_option linter.all false
namespace Go.Proofs.YtiahkfoojjpaaaaGreatDoor
open Go.RowKit
structure Ay (w0:World) (ca co:Nat) (cv:List Value):Prop where
 lt:ca < w0.heap.size
 at_:∀ (j:Nat) (v:Value),cv[j]? = some v->w0.cell? ⟨ca,co+j,none⟩=some v
section
variable {w0 w w' w2:World} {mb sb db lo hi:Nat} {s s':Mst} {u:Ust} {σ:Sst} {ca co:Nat} {cv:List Value}
theorem Ay.now (h:Ay w0 ca co cv) (m:Mac w0 w mb sb db s) {j:Nat} {v:Value} (hj:cv[j]? = some v):w.cell? ⟨ca,co+j,none⟩=some v:=(m.r.kp.cell (p:=⟨ca,co+j,none⟩) h.lt (by simp)).trans (h.at_ j v hj)
theorem dC.set {e:Ending} {u2:Ust} (h:Mac w0 w mb sb db s) (j:Nat) (v:Value) (hj:j < 20) (hr:s'.r=s.r) (hv:(Di sb db s).set j v=Di sb db s') (he:e=.returned (.tuple #[])) (hp:s'.p=u2.p):dC w0 mb sb db w s (.ok u2) e (w.setCell ⟨mb,j,none⟩ v):=
 ⟨he,(de.set h j v hj hr hv).lQ hp⟩
theorem qD (h:Mac w0 w mb sb db s) (hs:Scr lo hi w0 sb 0 σ) (hp:s.p=u.p) (hu:UOk u) :
  Calls Tryz.prog 127 #[.pointer (some ⟨mb,0,none⟩)] w (dC w0 mb sb db w s (u.dG σ.quiet)):=by
 have TE:=uq h hs hp hu;unfold Ust.dG;obtain ⟨R,hR⟩:∃ R,R=u.dN σ.quiet:=⟨_,rfl⟩;rw [<-hR] at TE ⊢;have HT:=hid TE;clear TE hR;go_enter Tryz.func127,Tryz.ntmps127
 go_wp2_with fail;refine HT.out.mono ?_;intro r w1 hr
 cases R with
 | error q=>
  obtain ⟨E,u1⟩:=q;obtain ⟨rfl,g1⟩:=hr;go_wp2_with fail;exact ⟨rfl,rfl,g1⟩
 | ok u1=>
  obtain ⟨rfl,s1,e1,m1,gr1⟩:=hr;have c12:=m1.b.at_ 12 _ rfl;have f12:=m1.b.free 12;have hst:=fX (P:=Tryz.prog) (v:=bwV) c12 f12 rfl;go_wp2_with fail;go_end0;refine ⟨rfl,{ s1 with aU:=bwV },?_,m1.set 12 bwV (by omega) rfl rfl,gr1.trans (Gr.set _ _ _ _)⟩;show ({ s1.p with aU:=bwV }:Pst)=_;rw [e1]
  rfl
theorem eN (h:Mac w0 w mb sb db s) (hp:s.p=u.p) (hu:UOk u) :
  Calls Tryz.prog 113 #[.pointer (some ⟨mb,0,none⟩)] w (dC w0 mb sb db w s (u.aH)):=by
 have TE:=eh h hp hu;unfold Ust.aH;obtain ⟨R,hR⟩:∃ R,R=u.brought:=⟨_,rfl⟩;rw [<-hR] at TE ⊢;have HT:=hid TE;clear TE hR;go_enter Tryz.func113,Tryz.ntmps113
 go_wp2_with fail;refine HT.out.mono ?_;intro r w1 hr
 cases R with
 | error q=>
  obtain ⟨E,u1⟩:=q;obtain ⟨rfl,g1⟩:=hr;go_wp2_with fail;exact ⟨rfl,rfl,g1⟩
 | ok u1=>
  obtain ⟨rfl,s1,e1,m1,gr1⟩:=hr;have c12:=m1.b.at_ 12 _ rfl;have f12:=m1.b.free 12;have hst:=fX (P:=Tryz.prog) (v:=bwV) c12 f12 rfl;go_wp2_with fail;go_end0;refine ⟨rfl,{ s1 with aU:=bwV },?_,m1.set 12 bwV (by omega) rfl rfl,gr1.trans (Gr.set _ _ _ _)⟩;show ({ s1.p with aU:=bwV }:Pst)=_;rw [e1]
  rfl
theorem tK {st:Nat} (h:Mac w0 w mb sb db s) (hs:Scr lo hi w0 sb 0 σ) (hp:s.p=u.p) (hu:UOk u) :
  Calls Tryz.prog 121 #[.pointer (some ⟨mb,0,none⟩),.int .i64 st] w (dC w0 mb sb db w s (u.fO σ.quiet st)):=by
 have TE:=qD h hs hp hu;unfold Ust.fO;obtain ⟨R,hR⟩:∃ R,R=u.dG σ.quiet:=⟨_,rfl⟩;rw [<-hR] at TE ⊢;have HT:=hid TE;clear TE hR;go_enter Tryz.func121,Tryz.ntmps121
 go_wp2_with fail;refine HT.out.mono ?_;intro r w1 hr
 cases R with
 | error q=>
  obtain ⟨E,u1⟩:=q;obtain ⟨rfl,g1⟩:=hr;go_wp2_with fail;exact ⟨rfl,rfl,g1⟩
 | ok u1=>
  obtain ⟨rfl,s1,e1,m1,gr1⟩:=hr;have c17:=m1.b.at_ 17 _ rfl;have f17:=m1.b.free 17;have c19:=m1.b.at_ 19 _ rfl;have f19:=m1.b.free 19;go_wp2_with fail;go_end0;have m2:=m1.set (s':={ s1 with over:=true }) 17 (.bool true) (by omega) rfl rfl;have m3:=m2.set (s':={ s1 with over:=true,status:=st }) 19 (.int .i64 st) (by omega) rfl rfl;refine ⟨rfl,_,?_,m3,gr1.trans ((Gr.set _ _ _ _).trans (Gr.set _ _ _ _))⟩;show ({ s1.p with over:=true,status:=st }:Pst)=_;rw [e1]
  rfl
theorem drop_t {cp:Value} (h:Mac w0 w mb sb db s) (hp:s.p=u.p) (hu:UOk u) :
  Calls Tryz.prog 65 #[.pointer (some ⟨mb,0,none⟩),cp] w (dC w0 mb sb db w s (u.aH)):=by
 have TE:=eN h hp hu;obtain ⟨R,hR⟩:∃ R,R=u.aH:=⟨_,rfl⟩;rw [<-hR] at TE ⊢;have HT:=hid TE;clear TE hR;go_enter Tryz.func65,Tryz.ntmps65
 go_wp2_with fail;refine HT.out.mono ?_;intro r w1 hr
 cases R with
 | error q=>
  obtain ⟨E,u1⟩:=q;obtain ⟨rfl,g1⟩:=hr;go_wp2_with fail;exact ⟨rfl,rfl,g1⟩
 | ok u1=>
  obtain ⟨rfl,g1⟩:=hr;go_wp2_with fail;go_end0;exact ⟨rfl,g1⟩
theorem quit_t {st:Nat} (h:Mac w0 w mb sb db s) (hs:Scr lo hi w0 sb 0 σ) (hc:Ay w0 ca co cv) (h8:cv[8]? = some (.int .i64 st)) (hp:s.p=u.p) (hu:UOk u) :
  Calls Tryz.prog 78 #[.pointer (some ⟨mb,0,none⟩),.pointer (some ⟨ca,co,none⟩)] w (dC w0 mb sb db w s (u.fO σ.quiet st)):=by
 have hst:=hc.now h h8;have TE:=tK (st:=st) h hs hp hu;obtain ⟨R,hR⟩:∃ R,R=u.fO σ.quiet st:=⟨_,rfl⟩;rw [<-hR] at TE ⊢;have HT:=hid TE;clear TE hR;go_enter Tryz.func78,Tryz.ntmps78
 go_wp2_with fail;refine HT.out.mono ?_;intro r w1 hr
 cases R with
 | error q=>
  obtain ⟨E,u1⟩:=q;obtain ⟨rfl,g1⟩:=hr;go_wp2_with fail;exact ⟨rfl,rfl,g1⟩
 | ok u1=>
  obtain ⟨rfl,g1⟩:=hr;go_wp2_with fail;go_end0;exact ⟨rfl,g1⟩
theorem print_t {cp:Value} (h:Mac w0 w mb sb db s) (hp:s.p=u.p) (hu:UOk u) :
  Calls Tryz.prog 74 #[.pointer (some ⟨mb,0,none⟩),cp] w (dC w0 mb sb db w s (u.tell (u.space))):=by
 have c9:=h.b.at_ 9 _ rfl;have hsp:s.space=ba u.space:=congrArg Pst.space hp;rw [hsp] at c9;have hl:=hu.sp;have TE:=iG (t:=u.space) (h.aj (Kp.drew [] w)) hp hu (by omega);obtain ⟨R,hR⟩:∃ R,R=u.tell (u.space):=⟨_,rfl⟩;rw [<-hR] at TE ⊢;have HT:=hid TE;clear TE hR
 cases R with
 | error q=>
  obtain ⟨E,u1⟩:=q;go_enter Tryz.func74,Tryz.ntmps74
  go_wp2_with fail;go_region_dies
  refine HT.out.mono ?_;rintro r w1 ⟨rfl,g1⟩;exact ⟨rfl,rfl,g1.pre (Kp.drew [] w)⟩
 | ok u1=>
  go_enter Tryz.func74,Tryz.ntmps74
  go_wp2_with fail;go_region_with (go_at_call 112;refine HT.out.mono ?_;rintro r w1 ⟨rfl,g1⟩)
  go_wp2_with fail;go_end0;exact ⟨rfl,g1.pre (Kp.drew [] w)⟩
theorem KV {t:List UInt8} (h:Mac w0 w mb sb db s) (hc:Ay w0 ca co cv) (h10:cv[10]? = some (.string (ba t))) (ht:t.length<=2000) (hp:s.p=u.p) (hu:UOk u) :
  Calls Tryz.prog 61 #[.pointer (some ⟨mb,0,none⟩),.pointer (some ⟨ca,co,none⟩)] w (dC w0 mb sb db w s (u.tell (t))):=by
 have c10:=hc.now h h10;have TE:=iG (t:=t) (h.aj (Kp.drew [] w)) hp hu (by omega);obtain ⟨R,hR⟩:∃ R,R=u.tell (t):=⟨_,rfl⟩;rw [<-hR] at TE ⊢;have HT:=hid TE;clear TE hR
 cases R with
 | error q=>
  obtain ⟨E,u1⟩:=q;go_enter Tryz.func61,Tryz.ntmps61
  go_wp2_with fail;go_region_dies
  refine HT.out.mono ?_;rintro r w1 ⟨rfl,g1⟩;exact ⟨rfl,rfl,g1.pre (Kp.drew [] w)⟩
 | ok u1=>
  go_enter Tryz.func61,Tryz.ntmps61
  go_wp2_with fail;go_region_with (go_at_call 112;refine HT.out.mono ?_;rintro r w1 ⟨rfl,g1⟩)
  go_wp2_with fail;go_end0;exact ⟨rfl,g1.pre (Kp.drew [] w)⟩
theorem get_t {cp:Value} (h:Mac w0 w mb sb db s) (hp:s.p=u.p) :
  Calls Tryz.prog 67 #[.pointer (some ⟨mb,0,none⟩),cp] w (dC w0 mb sb db w s (.ok { u with space:=u.held })):=by
 have c9:=h.b.at_ 9 _ rfl;have c10:=h.b.at_ 10 _ rfl;have f9:=h.b.free 9
 have G:=hid (dC.set (e:=.returned (.tuple #[])) (u2:={ u with space:=u.held }) (s':={ s with space:=s.held }) h 9 (.string s.held) (by omega) rfl rfl rfl (by
  show ({ s.p with space:=s.p.held }:Pst)=_;rw [hp]
  rfl))
 clear h;go_enter Tryz.func67,Tryz.ntmps67
 go_wp2_with fail;go_end0;exact G.out
theorem hold_t {cp:Value} (h:Mac w0 w mb sb db s) (hp:s.p=u.p) :
  Calls Tryz.prog 69 #[.pointer (some ⟨mb,0,none⟩),cp] w (dC w0 mb sb db w s (.ok { u with held:=u.space })):=by
 refine (hold_v h).mono ?_;rintro r w1 ⟨rfl,g⟩;refine ⟨rfl,g.lQ ?_⟩;show ({ s.p with held:=s.p.space }:Pst)=_;rw [hp]
 rfl
theorem Mb {k:Nat} (h:Mac w0 w mb sb db s) (hc:Ay w0 ca co cv) (h5:cv[5]? = some (.int .i64 k)) (hp:s.p=u.p) :
  Calls Tryz.prog 58 #[.pointer (some ⟨mb,0,none⟩),.pointer (some ⟨ca,co,none⟩)] w (dC w0 mb sb db w s (.ok { u with pc:=k })):=by
 refine (Ma h (hc.now h h5)).mono ?_;rintro r w1 ⟨rfl,g⟩;refine ⟨rfl,g.lQ ?_⟩;show ({ s.p with pc:=k }:Pst)=_;rw [hp]
 rfl
theorem enter_t {cp:Value} (h:Mac w0 w mb sb db s) (hp:s.p=u.p) :
  Calls Tryz.prog 57 #[.pointer (some ⟨mb,0,none⟩),cp] w (dC w0 mb sb db w s (.ok u)):=by
 refine (enter_v h).mono ?_;rintro r w1 ⟨rfl,g⟩;exact ⟨rfl,g.lQ hp⟩
theorem swap_t {cp:Value} (h:Mac w0 w mb sb db s) (hp:s.p=u.p) :
  Calls Tryz.prog 71 #[.pointer (some ⟨mb,0,none⟩),cp] w (dC w0 mb sb db w s (.ok { u with space:=u.held,held:=u.space })):=by
 have c9:=h.b.at_ 9 _ rfl;have c10:=h.b.at_ 10 _ rfl;have f9:=h.b.free 9;have f10:=h.b.free 10;have m0:=h.aj (Kp.drew [] w);have m1:=m0.set (s':={ s with space:=s.held }) 9 (.string s.held) (by omega) rfl rfl;have m2:=m1.set (s':={ s with space:=s.held,held:=s.space }) 10 (.string s.space) (by omega) rfl rfl;have n1:=m0.set (s':={ s with held:=s.space }) 10 (.string s.space) (by omega) rfl rfl;have n2:=n1.set (s':={ s with space:=s.held,held:=s.space }) 9 (.string s.held) (by omega) rfl rfl;have hpp:({ s with space:=s.held,held:=s.space }:Mst).p=({ u with space:=u.held,held:=u.space }:Ust).p:=by
  show ({ s.p with space:=s.p.held,held:=s.p.space }:Pst)=_;rw [hp]
  rfl
 have gd:Gr mb db w s.r w.drew s.r:=Gr.df (Kp.drew [] w) (fun _ e=>by cases e);have G1:Hid (dC w0 mb sb db w s (.ok { u with space:=u.held,held:=u.space }) (.returned (.tuple #[])) ((w.drew.setCell ⟨mb,9,none⟩ (.string s.held)).setCell ⟨mb,10,none⟩ (.string s.space))):=hid ⟨rfl,_,hpp,m2,gd.trans ((Gr.set _ _ _ _).trans (Gr.set _ _ _ _))⟩;have G2:Hid (dC w0 mb sb db w s (.ok { u with space:=u.held,held:=u.space }) (.returned (.tuple #[])) ((w.drew.setCell ⟨mb,10,none⟩ (.string s.space)).setCell ⟨mb,9,none⟩ (.string s.held))):=hid ⟨rfl,_,hpp,n2,gd.trans ((Gr.set _ _ _ _).trans (Gr.set _ _ _ _))⟩;clear h m0 m1 m2 n1 n2 gd;go_enter Tryz.func71,Tryz.ntmps71
 go_region_with fail
 all_goals
  go_wp2_with fail;go_end0;first | exact G1.out | exact G2.out
theorem DX {k:Nat} (h:Mac w0 w mb sb db s) (hc:Ay w0 ca co cv) (h5:cv[5]? = some (.int .i64 k)) (hp:s.p=u.p) :
  Calls Tryz.prog 59 #[.pointer (some ⟨mb,0,none⟩),.pointer (some ⟨ca,co,none⟩)] w (dC w0 mb sb db w s (.ok (if u.gL then { u with gL:=false,pc:=k } else u))):=by
 have c15:=h.b.at_ 15 _ rfl;have c13:=h.b.at_ 13 _ rfl;have f15:=h.b.free 15;have f13:=h.b.free 13;have hrp:s.gL=u.gL:=congrArg Pst.gL hp;have hk:=hc.now h h5;have hcm:ca≠mb:=fun e=>by have:=h.r.bk.lo 0 mb rfl;have:=hc.lt;omega
 have m1:=h.set (s':={ s with gL:=false }) 15 (.bool false) (by omega) rfl rfl;have m2:=m1.set (s':={ s with gL:=false,pc:=k }) 13 (.int .i64 k) (by omega) rfl rfl;have hk1:=hc.now m1 h5;rw [hrp] at c15
 cases hr:u.gL
 .rw [hr] at c15;have G:Hid (de w0 mb sb db w s w u.p):=hid ((de.refl h).lQ hp);clear h m1 m2;go_enter Tryz.func59,Tryz.ntmps59
  go_wp2_with fail;go_end0;exact ⟨rfl,G.out⟩
 .rw [hr] at c15
  have G:Hid (dC w0 mb sb db w s (.ok { u with gL:=false,pc:=k }) (.returned (.tuple #[])) ((w.setCell ⟨mb,15,none⟩ (.bool false)).setCell ⟨mb,13,none⟩ (.int .i64 k))):=hid ⟨rfl,_,(by
   show ({ s.p with gL:=false,pc:=k }:Pst)=_;rw [hp]
   rfl),m2,(Gr.set _ _ _ _).trans (Gr.set _ _ _ _)⟩
  clear h m1 m2;go_enter Tryz.func59,Tryz.ntmps59
  go_wp2_with fail;go_end0;exact G.out
end
theorem oL:∀ {l:List UInt8},(cutL l).2=none->(cutL l).1=l/\(10:UInt8)∉l
 | [],_=>⟨rfl,by simp⟩
 | c::l,h=>by
  unfold cutL at h ⊢;by_cases hc:c=10
  .rw [Ny hc] at h
   cases h
  .rw [Nr hc] at h ⊢;obtain ⟨h1,h2⟩:=oL (l:=l) h;exact ⟨by rw [h1],by simp [h2,Ne.symm hc]⟩
theorem gZ:∀ {l R:List UInt8},(cutL l).2=some R->l=(cutL l).1++10::R/\(10:UInt8)∉(cutL l).1
 | [],_,h=>by cases h
 | c::l,R,h=>by
  unfold cutL at h ⊢;by_cases hc:c=10
  .rw [Ny hc] at h ⊢;injection h with h;subst h;exact ⟨by rw [hc];rfl,by simp⟩
  .rw [Nr hc] at h ⊢;obtain ⟨h1,h2⟩:=gZ (l:=l) h;exact ⟨congrArg (c::·) h1,by simp [h2,Ne.symm hc]⟩
theorem lZ (l:List UInt8):(cutL l).1.length+((cutL l).2.getD []).length<=l.length:=by
 cases h:(cutL l).2 with
 | none=>
  rw [(oL h).1];simp
 | some R=>
  have:=congrArg List.length (gZ h).1;simp at this;simp;omega
theorem tU (l:List UInt8):((ba l).toList == [])=l.isEmpty:=by
 rw [ByteArray.toList_eq,dQ]
 cases l <;> rfl
theorem cut0_t {s:ByteArray} {i:Nat} (w:World) (h:Lib.indexByte s.data.toList 10=(i:Int)) (hi:i < s.size) (hs:s.size<=562949953421312) :
  Calls Tryz.prog 157 #[.string s,.string ⟨#[10]⟩] w fun r w'=>r=.returned (.tuple #[.string (s.extract 0 i),.string (s.extract (i+1) s.size),.bool true])/\∃ n,w'=w.drewN n:=by
 have HX:=hid (Hs s 10 w);have H:=hid h;clear h;obtain ⟨i1,hi1⟩:∃ i1:Nat,(i:Int)+1=(i1:Int):=⟨i+1,by omega⟩;have q1:=aa i1 (by omega);have e1:i1=i+1:=by omega
 have g1:i1<=s.size:=by omega
 have g2:i<=s.size:=by omega
 rw [<-e1];clear e1;go_enter Tryz.func157,Tryz.ntmps157
 go_wp2_with fail;refine HX.out.mono ?_;rintro r w1 ⟨rfl,rfl⟩;rw [H.out];go_wp2_with fail;go_quiet (fail);go_wp2_with fail;go_ret3
 exact ⟨rfl,_,rfl⟩
theorem cut_t {l:List UInt8} (w:World) (hs:l.length<=562949953421312) :
  Calls Tryz.prog 117 #[.string (ba l),.string ⟨#[10]⟩] w fun r w'=>r=.returned (.tuple #[.string (ba (cutL l).1),.string (ba ((cutL l).2.getD [])),.bool (cutL l).2.isSome])/\Kp [] w w':=by
 cases hc:(cutL l).2 with
 | none=>
  obtain ⟨h1,h2⟩:=oL hc;rw [h1];exact cut_no w h2
 | some R=>
  obtain ⟨h1,h2⟩:=gZ hc;obtain ⟨L,hL⟩:∃ L,L=(cutL l).1:=⟨_,rfl⟩;rw [<-hL] at h1 h2 ⊢;subst h1;clear hc hL;have hsz:(ba (L++10::R)).size=L.length+R.length+1:=by rw [ay,Nu,NO];omega
  have H:=hid (cut0_t (s:=ba (L++10::R)) (i:=L.length) w (by rw [dQ];exact BO L R h2) (by omega) (by rw [ay];exact hs));have e1:(ba (L++10::R)).extract 0 L.length=ba L:=by rw [eO];simp
  have e2:(ba (L++10::R)).extract (L.length+1) (ba (L++10::R)).size=ba R:=by
   rw [eO,hsz,Pe (by rw [Nu,NO];omega),List.drop_append,OB (by omega)];simp
  have E:=hid (And.intro e1 e2);clear e1 e2 hsz hs;go_enter Tryz.func117,Tryz.ntmps117
  go_wp2_with fail;refine H.out.mono ?_;rintro r w1 ⟨rfl,n,rfl⟩;rw [E.out.1,E.out.2];go_wp2_with fail;go_ret3
  exact ⟨rfl,Kp.drewN _ _ _⟩
section
variable {w0 w w' w2:World} {mb sb db lo hi:Nat} {s s':Mst} {u:Ust} {σ:Sst}
def D7 (w0:World) (mb sb db:Nat) (w:World) (s:Mst) (u:Ust) (e:Ending) (w':World):Prop:=
 if 1000 < (cutL u.left).1.length then e=gE 9 0/\de w0 mb sb db w s w' u.p
 else if u.there then e=.returned (.tuple #[.string (ba (cutL u.left).1),.bool true])/\de w0 mb sb db w s w' ({ u with left:=(cutL u.left).2.getD [] }:Ust).p
 else e=.returned (.tuple #[.string ⟨#[]⟩,.bool false])/\de w0 mb sb db w s w' u.p
theorem next_t (h:Mac w0 w mb sb db s) (hp:s.p=u.p) (hu:UOk u) :
  Calls Tryz.prog 126 #[.pointer (some ⟨mb,2,none⟩)] w (D7 w0 mb sb db w s u):=by
 have c2:=h.b.at_ 2 _ rfl;have f2:=h.b.free 2;have c3:=h.b.at_ 3 _ rfl;have c4:=h.b.at_ 4 _ rfl;have e2:s.left=ba u.left:=congrArg Pst.left hp;have e3:s.ahead=u.ahead:=congrArg Pst.ahead hp;have e4:s.ended=u.ended:=congrArg Pst.ended hp;rw [e2] at c2;rw [e3] at c3;rw [e4] at c4;have hlf:=hu.lf;have hcl:=lZ u.left;have CT:=hid (cut_t (l:=u.left) w (by omega));have HTH:Hid (u.there=if u.ended then !u.left.isEmpty else if u.ahead then !((cutL u.left).2.getD []).isEmpty else (cutL u.left).2.isSome):=hid rfl;have q0:=tU u.left;obtain ⟨L,hL⟩:∃ L,L=(cutL u.left).1:=⟨_,rfl⟩;obtain ⟨R,hRR⟩:∃ R,R=(cutL u.left).2.getD []:=⟨_,rfl⟩;obtain ⟨b,hb⟩:∃ b,b=(cutL u.left).2.isSome:=⟨_,rfl⟩
 have HN:Hid (∀ (e:Ending) (w':World),(if 1000 < L.length then e=gE 9 0/\de w0 mb sb db w s w' u.p
   else if u.there then e=.returned (.tuple #[.string (ba L),.bool true])/\de w0 mb sb db w s w' ({ u with left:=R }:Ust).p
   else e=.returned (.tuple #[.string ⟨#[]⟩,.bool false])/\de w0 mb sb db w s w' u.p)->D7 w0 mb sb db w s u e w'):=hid (fun e w' q=>by unfold D7;rw [<-hL,<-hRR];exact q)
 rw [<-hL,<-hRR,<-hb] at CT;rw [<-hRR,<-hb] at HTH;rw [<-hL,<-hRR] at hcl;have qR:=tU R;have HH:=hid h;have HP:=hid hp;have hblt:=h.b.lt;clear hL hRR hb hp hu h e2 e3 e4;have zL:=ay L;go_enter Tryz.func126,Tryz.ntmps126
 go_wp2_with fail;refine CT.out.mono ?_;rintro r w1 ⟨rfl,k1⟩;have d2:=(k1.cell (p:=⟨mb,2,none⟩) hblt (by simp)).trans c2;have d3:=(k1.cell (p:=⟨mb,3,none⟩) hblt (by simp)).trans c3;have d4:=(k1.cell (p:=⟨mb,4,none⟩) hblt (by simp)).trans c4;have f2:=(k1.frozen (p:=⟨mb,2,none⟩) hblt (by simp)).trans f2;have m1:=HH.out.aj k1;have gr1:Gr mb db w s.r w1 s.r:=Gr.df k1 (fun _ e=>by cases e);have G1:Hid (de w0 mb sb db w s w1 u.p):=hid ⟨s,HP.out,m1,gr1⟩;have m2:=m1.set (s':={ s with left:=ba R }) 2 (.string (ba R)) (by omega) rfl rfl
 have G2:Hid (de w0 mb sb db w s (w1.setCell ⟨mb,2,none⟩ (.string (ba R))) ({ u with left:=R }:Ust).p):=hid ⟨_,(by
  show ({ s.p with left:=ba R }:Pst)=_;rw [HP.out]
  rfl),m2,gr1.trans (Gr.set _ _ _ _)⟩
 have HK:=hid (zX (ba L) (w1.setCell ⟨mb,2,none⟩ (.string (ba R))) (by omega));clear m1 m2 gr1 k1 c2 c3 c4;by_cases h1000:1000 < L.length
 .have hsz:1000 < (ba L).size:=by omega
  go_wp2_with fail;refine (lY 9 _).mono ?_;rintro r w2 ⟨rfl,rfl⟩;go_wp2_with fail;refine ⟨rfl,HN.out _ _ ?_⟩;rw [Ny h1000];exact ⟨rfl,G1.out⟩
 .have hsz:¬ 1000 < (ba L).size:=by omega
  have FIN1:Hid (u.there=false->D7 w0 mb sb db w s u (.returned (.tuple #[.string ⟨#[]⟩,.bool false])) w1):=hid (fun q=>HN.out _ _ (by rw [Nr h1000,q,Nr (by simp)];exact ⟨rfl,G1.out⟩));have FIN2:Hid (u.there=true->∀ w3,Kp [] (w1.setCell ⟨mb,2,none⟩ (.string (ba R))) w3->D7 w0 mb sb db w s u (.returned (.tuple #[.string (ba L),.bool true])) w3):=hid (fun q w3 k3=>HN.out _ _ (by rw [Nr h1000,q,Ny rfl];exact ⟨rfl,G2.out.aj k3⟩));have hth:=HTH.out;clear HTH h1000 G1 G2 HN
  cases he:u.ended
  .rw [he] at d4 hth;rw [Nr (by simp)] at hth
   cases ha:u.ahead
   .rw [ha] at d3 hth;rw [Nr (by simp)] at hth
    cases b
    .go_wp2_with fail;go_ret2
     exact FIN1.out hth
    .go_wp2_with fail;refine HK.out.mono ?_;rintro r w2 ⟨rfl,k2⟩;go_wp2_with fail;go_ret2
     exact FIN2.out hth _ k2
   .rw [ha] at d3 hth;rw [Ny rfl] at hth
    cases hR0:R.isEmpty
    .rw [hR0] at qR hth;go_wp2_with fail;refine HK.out.mono ?_;rintro r w2 ⟨rfl,k2⟩;go_wp2_with fail;go_ret2
     exact FIN2.out hth _ k2
    .rw [hR0] at qR hth;go_wp2_with fail;go_ret2
     exact FIN1.out hth
  .rw [he] at d4 hth;rw [Ny rfl] at hth
   cases hl0:u.left.isEmpty
   .rw [hl0] at q0 hth;go_wp2_with fail;refine HK.out.mono ?_;rintro r w2 ⟨rfl,k2⟩;go_wp2_with fail;go_ret2
    exact FIN2.out hth _ k2
   .rw [hl0] at q0 hth;go_wp2_with fail;go_ret2
    exact FIN1.out hth
end
theorem xX {t:ByteArray} (ht:4000 < t.size) (w:World):Calls Tryz.prog 115 #[.string t] w fun r w'=>r=gE 8 0/\w'=w:=by
 go_enter Tryz.func115,Tryz.ntmps115
 go_wp2_with fail;refine (lY 8 _).mono ?_;rintro r w2 ⟨rfl,rfl⟩;go_wp2_with fail;exact ⟨rfl,rfl,rfl⟩
theorem tq {a b:List UInt8} (h:4000 < (a++10::b).length) (ha:a.length<=4000) (hb:b.length<=4000) (w:World):Calls Tryz.prog 119 #[.string (ba a),.string (ba b)] w fun r w'=>r=gE 8 0/\w'=w:=by
 obtain ⟨c,hc⟩:∃ c,c=a++[10]:=⟨_,rfl⟩;obtain ⟨d,hd⟩:∃ d,d=c++b:=⟨_,rfl⟩;have e1:ba a++⟨#[10]⟩=ba c:=by rw [hc];exact jC a [10]
 have e2:ba c++ba b=ba d:=by rw [hd];exact jC c b
 have hl:(a++10::b).length=a.length+1+b.length:=by simp;omega
 rw [hl] at h;have za:=ay a;have zb:=ay b;have zc:(ba c).size=a.length+1:=by rw [ay,hc,Nu];rfl
 have zd:(ba d).size=a.length+1+b.length:=by rw [ay,hd,hc,Nu,Nu];rfl
 have o1:¬ 9223372036854775807 < a.length+1:=by omega
 have o2:¬ 9223372036854775807 < a.length+1+b.length:=by omega
 have HB:=hid (fun w=>xX (t:=ba d) (by omega) w);clear hc hd h hl ha hb;go_enter Tryz.func119,Tryz.ntmps119
 go_wp2_with fail;refine (HB.out _).mono ?_;rintro r w1 ⟨rfl,rfl⟩;go_wp2_with fail;exact ⟨rfl,rfl,rfl⟩
section
variable {w0 w w' w2:World} {mb sb db lo hi:Nat} {s s':Mst} {u:Ust} {σ:Sst}
theorem zG {cp:Value} (h:Mac w0 w mb sb db s) (hp:s.p=u.p) (hu:UOk u) :
  Calls Tryz.prog 68 #[.pointer (some ⟨mb,0,none⟩),cp] w (dC w0 mb sb db w s (Ust.gS u.space u.held (fun t=>{ u with space:=t }) u)):=by
 have c9:=h.b.at_ 9 _ rfl;have c10:=h.b.at_ 10 _ rfl;have f9:=h.b.free 9;have e9:s.space=ba u.space:=congrArg Pst.space hp;have e10:s.held=ba u.held:=congrArg Pst.held hp;rw [e9] at c9;rw [e10] at c10;have l9:=hu.sp;have l10:=hu.hd;unfold Ust.gS;have hlen:(u.space++10::u.held).length=u.space.length+1+u.held.length:=by simp;omega
 by_cases hb:4000 < (u.space++10::u.held).length
 .rw [Ny hb];have H:=hid (fun w=>tq hb (by omega) (by omega) w);have G:Hid (de w0 mb sb db w s w.drew u.p):=hid (((de.refl h).aj (Kp.drew [] w)).lQ hp);clear h hlen hb l9 l10;go_enter Tryz.func68,Tryz.ntmps68
  go_region_dies
  all_goals
   refine (H.out _).mono ?_;rintro r w1 ⟨rfl,rfl⟩;exact ⟨rfl,rfl,G.out⟩
 .rw [Nr hb];have H:=hid (fun w=>lV (a:=u.space) (b:=u.held) (by omega) w);have m1:=h.aj (Kp.drew [] w);have m2:=m1.set (s':={ s with space:=ba (u.space++10::u.held) }) 9 (.string (ba (u.space++10::u.held))) (by omega) rfl rfl;have gr:Gr mb db w s.r (w.drew.setCell ⟨mb,9,none⟩ (.string (ba (u.space++10::u.held)))) s.r:=(Gr.df (Kp.drew [] w) (fun _ e=>by cases e)).trans (Gr.set _ _ _ _)
  have G2:Hid (de w0 mb sb db w s (w.drew.setCell ⟨mb,9,none⟩ (.string (ba (u.space++10::u.held)))) ({ u with space:=u.space++10::u.held }:Ust).p):=hid ⟨_,(by
   show ({ s.p with space:=ba (u.space++10::u.held) }:Pst)=_;rw [hp]
   rfl),m2,gr⟩
  clear m1 m2 gr h hlen hb l9 l10;go_enter Tryz.func68,Tryz.ntmps68
  go_region_with (go_at_call 119;refine (H.out _).mono ?_;rintro r w1 ⟨rfl,rfl⟩)
  all_goals
   go_wp2_with fail;go_end0;exact ⟨rfl,G2.out⟩
theorem xp {cp:Value} (h:Mac w0 w mb sb db s) (hp:s.p=u.p) (hu:UOk u) :
  Calls Tryz.prog 70 #[.pointer (some ⟨mb,0,none⟩),cp] w (dC w0 mb sb db w s (Ust.gS u.held u.space (fun t=>{ u with held:=t }) u)):=by
 have c9:=h.b.at_ 9 _ rfl;have c10:=h.b.at_ 10 _ rfl;have f10:=h.b.free 10;have e9:s.space=ba u.space:=congrArg Pst.space hp;have e10:s.held=ba u.held:=congrArg Pst.held hp;rw [e9] at c9;rw [e10] at c10;have l9:=hu.sp;have l10:=hu.hd;unfold Ust.gS;have hlen:(u.held++10::u.space).length=u.held.length+1+u.space.length:=by simp;omega
 by_cases hb:4000 < (u.held++10::u.space).length
 .rw [Ny hb];have H:=hid (fun w=>tq hb (by omega) (by omega) w);have G:Hid (de w0 mb sb db w s w.drew u.p):=hid (((de.refl h).aj (Kp.drew [] w)).lQ hp);clear h hlen hb l9 l10;go_enter Tryz.func70,Tryz.ntmps70
  go_region_dies
  all_goals
   refine (H.out _).mono ?_;rintro r w1 ⟨rfl,rfl⟩;exact ⟨rfl,rfl,G.out⟩
 .rw [Nr hb];have H:=hid (fun w=>lV (a:=u.held) (b:=u.space) (by omega) w);have m1:=h.aj (Kp.drew [] w);have m2:=m1.set (s':={ s with held:=ba (u.held++10::u.space) }) 10 (.string (ba (u.held++10::u.space))) (by omega) rfl rfl;have gr:Gr mb db w s.r (w.drew.setCell ⟨mb,10,none⟩ (.string (ba (u.held++10::u.space)))) s.r:=(Gr.df (Kp.drew [] w) (fun _ e=>by cases e)).trans (Gr.set _ _ _ _)
  have G2:Hid (de w0 mb sb db w s (w.drew.setCell ⟨mb,10,none⟩ (.string (ba (u.held++10::u.space)))) ({ u with held:=u.held++10::u.space }:Ust).p):=hid ⟨_,(by
   show ({ s.p with held:=ba (u.held++10::u.space) }:Pst)=_;rw [hp]
   rfl),m2,gr⟩
  clear m1 m2 gr h hlen hb l9 l10;go_enter Tryz.func70,Tryz.ntmps70
  go_region_with (go_at_call 119;refine (H.out _).mono ?_;rintro r w1 ⟨rfl,rfl⟩)
  all_goals
   go_wp2_with fail;go_end0;exact ⟨rfl,G2.out⟩
theorem Dw {L:List UInt8} (h:Mac w0 w mb sb db s) (hp:s.p=u.p) (hu:UOk u) (hL:L.length<=1000) :
  Calls Tryz.prog 124 #[.pointer (some ⟨mb,0,none⟩),.string (ba L)] w (dC w0 mb sb db w s (Ust.gS u.space L (fun t=>{ u with space:=t }) u)):=by
 have c9:=h.b.at_ 9 _ rfl;have f9:=h.b.free 9;have e9:s.space=ba u.space:=congrArg Pst.space hp;rw [e9] at c9;have l9:=hu.sp;unfold Ust.gS;have hlen:(u.space++10::L).length=u.space.length+1+L.length:=by simp;omega
 by_cases hb:4000 < (u.space++10::L).length
 .rw [Ny hb];have H:=hid (tq hb (by omega) (by omega) w);have G:Hid (de w0 mb sb db w s w u.p):=hid ((de.refl h).lQ hp);clear h hlen hb l9;go_enter Tryz.func124,Tryz.ntmps124
  go_wp2_with fail;refine H.out.mono ?_;rintro r w1 ⟨rfl,rfl⟩;go_wp2_with fail;exact ⟨rfl,rfl,G.out⟩
 .rw [Nr hb];refine (pz (a:=u.space) (b:=L) h e9 (by omega)).mono ?_;rintro r w1 ⟨rfl,g⟩;refine ⟨rfl,g.lQ ?_⟩;show ({ s.p with space:=ba (u.space++10::L) }:Pst)=_;rw [hp]
  rfl
theorem goOn_t {L:List UInt8} (h:Mac w0 w mb sb db s) (hp:s.p=u.p) :
  Calls Tryz.prog 123 #[.pointer (some ⟨mb,0,none⟩),.string (ba L)] w (dC w0 mb sb db w s (.ok { u with space:=L })):=by
 have c9:=h.b.at_ 9 _ rfl;have f9:=h.b.free 9
 have G:=hid (dC.set (e:=.returned (.tuple #[])) (u2:={ u with space:=L }) (s':={ s with space:=ba L }) h 9 (.string (ba L)) (by omega) rfl rfl rfl (by
  show ({ s.p with space:=ba L }:Pst)=_;rw [hp]
  rfl))
 clear h;go_enter Tryz.func123,Tryz.ntmps123
 go_wp2_with fail;go_end0;exact G.out
theorem Ad {L:List UInt8} (h:Mac w0 w mb sb db s) (hp:s.p=u.p) :
  Calls Tryz.prog 41 #[.pointer (some ⟨mb,0,none⟩),.string (ba L)] w (dC w0 mb sb db w s (.ok ({ u with steps:=0 }.qO L))):=by
 refine (Ab h).mono ?_;rintro r w1 ⟨rfl,g⟩;refine ⟨rfl,g.lQ ?_⟩;rw [hp]
 rfl
theorem begin_t {L:List UInt8} (h:Mac w0 w mb sb db s) (hp:s.p=u.p) :
  Calls Tryz.prog 80 #[.pointer (some ⟨mb,0,none⟩),.string (ba L)] w (dC w0 mb sb db w s (.ok (u.qO L))):=by
 refine (I5 h).mono ?_;rintro r w1 ⟨rfl,g⟩;refine ⟨rfl,g.lQ ?_⟩;rw [hp]
 rfl
def SupO (w0:World) (mb sb db:Nat) (w:World) (s:Mst) (u:Ust) (R:Except (Nat×Ust) (Option Ust)) (e:Ending) (w':World):Prop:=
 match R with
 | .error (E,u1)=>e=gE E 0/\de w0 mb sb db w s w' u1.p
 | .ok none=>e=.returned (.bool false)/\de w0 mb sb db w s w' u.p
 | .ok (some u1)=>e=.returned (.bool true)/\de w0 mb sb db w s w' u1.p
def rp (u:Ust):Ust:={ u with left:=(cutL u.left).2.getD [],number:=u.number+1,aU:=.no }
def CJ:RU->Except (Nat×Ust) (Option Ust)
 | .error e=>.error e
 | .ok u=>.ok (some u)
theorem jN {R:RU} {f:Nat} (hen:Enters f) (h:Mac w0 w mb sb db s) (hp:s.p=u.p) (hu:UOk u) (hw:u.aU.v=.func (.func f) #[] #[])
  (ht:u.there=true->(cutL u.left).1.length<=1000->∀ (w1:World) (s1:Mst),Mac w0 w1 mb sb db s1->s1.p=(rp u).p->Calls Tryz.prog f #[.pointer (some ⟨mb,0,none⟩),.string (ba (cutL u.left).1)] w1 (dC w0 mb sb db w1 s1 R)) :
  Calls Tryz.prog 82 #[.pointer (some ⟨mb,0,none⟩)] w (SupO w0 mb sb db w s u (if 1000 < (cutL u.left).1.length then .error (9,u) else if u.there then CJ R else .ok none)):=by
 have c12:=h.b.at_ 12 _ rfl;have hwv:s.aU=.func (.func f) #[] #[]:=(congrArg Pst.aU hp).trans hw;rw [hwv] at c12;have HX:=hid (next_t h hp hu);have HT:=hid ht;have hnum:u.number<=281474976710656:=by have:=hu.lf;omega
 have HP:=hid hp;clear ht h hp hu;have hbo:∀ w,(binOp BinOp.eql 103 (.func (.func f) #[] #[]) .nilFunc).run Tryz.prog w=.ok (.bool false) w:=fun _=>rfl;unfold Enters at hen;obtain ⟨L,hL⟩:∃ L,L=(cutL u.left).1:=⟨_,rfl⟩;obtain ⟨K,hK⟩:∃ K,K=(if 1000 < (cutL u.left).1.length then .error (9,u) else if u.there then CJ R else .ok none:Except (Nat×Ust) (Option Ust)):=⟨_,rfl⟩;rw [<-hK];have HKK:=hid hK;clear hK;go_enter Tryz.func82,Tryz.ntmps82
 go_wp2_with fail;refine HX.out.mono ?_;intro r w1 hr;unfold D7 at hr;by_cases h1000:1000 < (cutL u.left).1.length
 .rw [Ny h1000] at hr;obtain ⟨rfl,g1⟩:=hr;have H1000:=hid h1000;clear h1000;go_wp2_with fail;refine ⟨rfl,?_⟩;rw [HKK.out,Ny H1000.out];exact ⟨rfl,g1⟩
 .rw [Nr h1000] at hr;have H1000:=hid h1000;clear h1000
  cases hth:u.there
  .rw [hth,Nr (by simp)] at hr;obtain ⟨rfl,g1⟩:=hr;have HTH:=hid hth;clear hth;go_wp2_with fail;go_ret;rw [HKK.out,Nr H1000.out,HTH.out,Nr (by simp)];exact ⟨rfl,g1⟩
  .rw [hth,Ny rfl] at hr;obtain ⟨rfl,s1,e1,m1,g1⟩:=hr;have HTH:=hid hth;clear hth;rw [<-hL] at HT ⊢;have d8:=m1.b.at_ 8 _ rfl;have f8:=m1.b.free 8;have d12:=m1.b.at_ 12 _ rfl;have f12:=m1.b.free 12;have hw1:s1.aU=.func (.func f) #[] #[]:=(congrArg Pst.aU e1).trans hw;have hn1:s1.number=u.number:=congrArg Pst.number e1;rw [hw1] at d12;obtain ⟨n1,hn1'⟩:∃ n1:Nat,n1=s1.number+1:=⟨_,rfl⟩;have wr:=aN s1.number n1 hn1' (by omega);have m2:=m1.set (s':={ s1 with number:=n1 }) 8 (.int .i64 (n1:Int)) (by omega) rfl rfl;have m3:=m2.set (s':={ s1 with number:=n1,aU:=.nilFunc }) 12 .nilFunc (by omega) rfl rfl;have M3:=hid m3;have hst:=fX (P:=Tryz.prog) (w:=w1.setCell ⟨mb,8,none⟩ (.int .i64 (n1:Int))) (v:=.nilFunc) (m2.b.at_ 12 _ rfl) (m2.b.free 12) rfl
   have P3:Hid (({ s1 with number:=n1,aU:=.nilFunc }:Mst).p=(rp u).p):=hid (by
    show ({ s1.p with number:=n1,aU:=.nilFunc }:Pst)=_;rw [e1,hn1',hn1]
    rfl)
   have HTT:=hid (HT.out HTH.out (by rw [hL];have:=H1000.out;omega) _ _ M3.out P3.out);have G13:Hid (Gr mb db w s.r ((w1.setCell ⟨mb,8,none⟩ (.int .i64 (n1:Int))).setCell ⟨mb,12,none⟩ .nilFunc) s1.r):=hid (g1.trans ((Gr.set _ _ _ _).trans (Gr.set _ _ _ _)));clear hn1 hn1' m2 m3 HT g1 e1 hL;have KK:Hid (K=CJ R):=hid (by rw [HKK.out,Nr H1000.out,HTH.out,Ny rfl]);go_wp2_with fail;refine HTT.out.mono ?_;intro r w2 hr
   cases R with
   | error q=>
    obtain ⟨E,u2⟩:=q;obtain ⟨rfl,s2,e2,m2,g2⟩:=hr;go_wp2_with fail;refine ⟨rfl,?_⟩;rw [KK.out];exact ⟨rfl,s2,e2,m2,G13.out.trans g2⟩
   | ok u2=>
    obtain ⟨rfl,s2,e2,m2,g2⟩:=hr;go_wp2_with fail;go_ret;rw [KK.out];exact ⟨rfl,s2,e2,m2,G13.out.trans g2⟩
theorem UOk.rp (h:UOk u) (ht:u.there=true):UOk (rp u):=by
 refine ⟨h.sp,h.hd,h.ct,h.ot,h.fb,h.bt,h.bl,?_⟩;have h1:=lZ u.left;have h2:=h.lf;show ((cutL u.left).2.getD []).length+(u.number+1)<=_;have h3:((cutL u.left).2.getD []).length < u.left.length:=by
  cases hc:(cutL u.left).2 with
  | some R=>
   have:=congrArg List.length (gZ hc).1;simp at this;simp;omega
  | none=>
   simp only [Option.getD_none,OC];unfold Ust.there at ht;rw [hc] at ht
   cases hl:u.left with
   | nil=>rw [hl] at ht;simp at ht
   | cons a l=>simp
 omega
theorem CG (h:Mac w0 w mb sb db s) (hp:s.p=u.p) (hu:UOk u) :
  Calls Tryz.prog 82 #[.pointer (some ⟨mb,0,none⟩)] w (SupO w0 mb sb db w s u u.dj):=by
 cases hw:u.aU with
 | no=>
  have e:u.dj=.ok (some u):=by unfold Ust.dj;rw [hw]
  rw [e];refine (yr h ((congrArg Pst.aU hp).trans (by show u.aU.v=_;rw [hw];rfl))).mono ?_;rintro r w1 ⟨rfl,g⟩;exact ⟨rfl,g.lQ hp⟩
 | bw=>
  have e:u.dj=(if 1000 < (cutL u.left).1.length then .error (9,u) else if u.there then CJ (.ok ({ rp u with steps:=0 }.qO (cutL u.left).1)) else .ok none):=by unfold Ust.dj;rw [hw];rfl
  rw [e];exact jN (f:=41) (fun _ _ _=>by kernel_rfl) h hp hu (by rw [hw];rfl) (fun _ _ w1 s1 m1 e1=>Ad m1 e1)
 | gw=>
  have e:u.dj=(if 1000 < (cutL u.left).1.length then .error (9,u) else if u.there then CJ (.ok { rp u with space:=(cutL u.left).1 }) else .ok none):=by unfold Ust.dj;rw [hw];rfl
  rw [e];exact jN (f:=123) (fun _ _ _=>by kernel_rfl) h hp hu (by rw [hw];rfl) (fun _ _ w1 s1 m1 e1=>goOn_t m1 e1)
 | gm=>
  have e:u.dj=(if 1000 < (cutL u.left).1.length then .error (9,u) else if u.there then CJ (Ust.gS (rp u).space (cutL u.left).1 (fun t=>{ rp u with space:=t }) (rp u)) else .ok none):=by
   unfold Ust.dj;rw [hw]
   show (if 1000 < (cutL u.left).1.length then .error (9,u) else if u.there then (match Ust.gS (rp u).space (cutL u.left).1 (fun t=>{ rp u with space:=t }) (rp u) with
    | .error e=>.error e
    | .ok u2=>.ok (some u2)) else .ok none:Except (Nat×Ust) (Option Ust))=_
   cases Ust.gS (rp u).space (cutL u.left).1 (fun t=>{ rp u with space:=t }) (rp u) <;> rfl
  rw [e];exact jN (f:=124) (fun _ _ _=>by kernel_rfl) h hp hu (by rw [hw];rfl) (fun hth h1 w1 s1 m1 e1=>Dw m1 e1 (hu.rp hth) h1)
end
def Pow (w : World) : Prop := Lib.TabIs Tryz.prog w "internal/strconv.uint64pow10" .u64 Lib.pow10Tab
theorem Pow.aj {w w':World} (h:Pow w) (k:Kp [] w w'):Pow w':=by
 unfold Pow Lib.TabIs World.var? at h ⊢
 cases hg : Tryz.prog.globalNamed "internal/strconv.uint64pow10" with
 | none=>rw [hg] at h;cases h
 | some g=>
  rw [hg] at h;simp only [Option.bind_some] at h ⊢
  cases ho:w.heap[g]? with
  | none=>rw [ho] at h;cases h
  | some o=>
   rw [k.block g (aM ho) (by simp)];exact h
theorem fw (w:World) (k:Nat) (os:Array Obj):Kp [] w (Sort.grow (w.drewN k) os):=by
 have k1:=Kp.drewN [] w k;refine ⟨k1.os,k1.tape,k1.output,by show w.heap.size<=((w.drewN k).heap++os).size;rw [Array.size_append];have:=k1.size;omega,fun j hj _=>?_⟩;show ((w.drewN k).heap++os)[j]? = _;rw [Array.getElem?_append_left (by have:=k1.size;omega)];exact k1.block j hj (by simp)
theorem iq:∀ (n u:Nat),u < 10 ^ (n+1)->(Lib.decDigits u).length<=n+1
 | 0,u,h=>by
  rw [Lib.decDigits,dif_pos (by omega)];simp
 | n+1,u,h=>by
  rw [Lib.decDigits];split
  .simp
  .have:=iq n (u / 10) (by rw [Nat.pow_succ] at h;omega);simp;omega
section
variable {w0 w w' w2:World} {mb sb db lo hi:Nat} {s s':Mst} {u:Ust} {σ:Sst} {ca co:Nat} {cv:List Value}
theorem uS {cp:Value} (h:Mac w0 w mb sb db s) (hp:s.p=u.p) (hu:UOk u) :
  Calls Tryz.prog 75 #[.pointer (some ⟨mb,0,none⟩),cp] w (dC w0 mb sb db w s (u.tell (cutL u.space).1)):=by
 have c9:=h.b.at_ 9 _ rfl;have e9:s.space=ba u.space:=congrArg Pst.space hp;rw [e9] at c9;have l9:=hu.sp;have hcl:=lZ u.space;have CT:=hid (cut_t (l:=u.space) w (by omega));have HT:Hid (∀ w1,Kp [] w w1->Calls Tryz.prog 112 #[.pointer (some ⟨mb,5,none⟩),.string (ba (cutL u.space).1)] w1 (dC w0 mb sb db w1 s (u.tell (cutL u.space).1))):=hid (fun w1 k1=>iG (h.aj k1) hp hu (by omega));obtain ⟨R,hR⟩:∃ R,R=u.tell (cutL u.space).1:=⟨_,rfl⟩;rw [<-hR] at HT ⊢;clear hR h hp hu;go_enter Tryz.func75,Tryz.ntmps75
 go_wp2_with fail;refine CT.out.mono ?_;rintro r w1 ⟨rfl,k1⟩;have K1:=hid k1;clear k1;go_wp2_with fail;refine (HT.out w1 K1.out).mono ?_;intro r w2 hr;replace hr:=dC.pre K1.out hr
 cases R with
 | error q=>
  obtain ⟨E,u1⟩:=q;obtain ⟨rfl,g1⟩:=hr;go_wp2_with fail;exact ⟨rfl,rfl,g1⟩
 | ok u1=>
  obtain ⟨rfl,g1⟩:=hr;go_wp2_with fail;go_end0;exact ⟨rfl,g1⟩
theorem dropFirst_t {cp:Value} (h:Mac w0 w mb sb db s) (hp:s.p=u.p) (hu:UOk u) :
  Calls Tryz.prog 66 #[.pointer (some ⟨mb,0,none⟩),cp] w (dC w0 mb sb db w s (match (cutL u.space).2 with
   | none=>u.aH
   | some rest=>match u.brought with
    | .error e=>.error e
    | .ok u1=>.ok (u1.qO rest))):=by
 have c9:=h.b.at_ 9 _ rfl;have e9:s.space=ba u.space:=congrArg Pst.space hp;rw [e9] at c9;have l9:=hu.sp;have CT:=cut_t (l:=u.space) w (by omega)
 cases hc:(cutL u.space).2 with
 | none=>
  rw [hc] at CT;have HC:=hid CT;have HT:Hid (∀ w1,Kp [] w w1->Calls Tryz.prog 113 #[.pointer (some ⟨mb,0,none⟩)] w1 (dC w0 mb sb db w1 s u.aH)):=hid (fun w1 k1=>eN (h.aj k1) hp hu);obtain ⟨R,hR⟩:∃ R,R=u.aH:=⟨_,rfl⟩;dsimp only;rw [<-hR] at HT ⊢;clear hR h hp hu CT hc;go_enter Tryz.func66,Tryz.ntmps66
  go_wp2_with fail;refine HC.out.mono ?_;rintro r w1 ⟨rfl,k1⟩;have K1:=hid k1;clear k1;go_wp2_with fail;refine (HT.out w1 K1.out).mono ?_;intro r w2 hr;replace hr:=dC.pre K1.out hr
  cases R with
  | error q=>
   obtain ⟨E,u1⟩:=q;obtain ⟨rfl,g1⟩:=hr;go_wp2_with fail;exact ⟨rfl,rfl,g1⟩
  | ok u1=>
   obtain ⟨rfl,g1⟩:=hr;go_wp2_with fail;refine bodyPost_ret (results_none rfl _ _ _) rfl ?_;exact ⟨rfl,g1⟩
 | some rest=>
  rw [hc] at CT;have HC:=hid CT;have HT:Hid (∀ w1,Kp [] w w1->Calls Tryz.prog 118 #[.pointer (some ⟨mb,0,none⟩)] w1 (dC w0 mb sb db w1 s u.brought)):=hid (fun w1 k1=>eh (h.aj k1) hp hu);obtain ⟨R,hR⟩:∃ R,R=u.brought:=⟨_,rfl⟩;dsimp only;rw [<-hR] at HT ⊢;clear hR h hp hu CT hc;go_enter Tryz.func66,Tryz.ntmps66
  go_wp2_with fail;refine HC.out.mono ?_;rintro r w1 ⟨rfl,k1⟩;have K1:=hid k1;clear k1;go_wp2_with fail;refine (HT.out w1 K1.out).mono ?_;intro r w2 hr;replace hr:=dC.pre K1.out hr
  cases R with
  | error q=>
   obtain ⟨E,u1⟩:=q;obtain ⟨rfl,g1⟩:=hr;go_wp2_with fail;exact ⟨rfl,rfl,g1⟩
  | ok u1=>
   obtain ⟨rfl,s1,e1,m1,gr1⟩:=hr;have M1:=hid m1;clear m1;go_wp2_with fail;refine (begin_t M1.out e1).mono ?_;rintro r w3 ⟨rfl,s3,e3,m3,gr3⟩;go_wp2_with fail;go_end0;exact ⟨rfl,s3,e3,m3,gr1.trans gr3⟩
theorem yW (hp:s.p=u.p):s.p.none=u.none_:=by
 rw [hp];show (u.ended && ((ba u.left).toList == []))=_;rw [tU]
 rfl
theorem Df {cp:Value} (h:Mac w0 w mb sb db s) (hs:Scr lo hi w0 sb 0 σ) (hp:s.p=u.p) (hu:UOk u) :
  Calls Tryz.prog 72 #[.pointer (some ⟨mb,0,none⟩),cp] w (dC w0 mb sb db w s (if u.none_ then u.fO σ.quiet 0 else match u.dN σ.quiet with
   | .error e=>.error e
   | .ok u1=>.ok { u1 with aU:=.gw })):=by
 have NV:=GZ h (yW hp)
 cases hn:u.none_
 .rw [hn] at NV;have HN:=hid NV;rw [Nr (by simp)];have TE:=uq h hs hp hu;obtain ⟨R,hR⟩:∃ R,R=u.dN σ.quiet:=⟨_,rfl⟩;rw [<-hR] at TE ⊢;have HT:=hid TE;clear TE hR NV h hs hp hu hn;go_enter Tryz.func72,Tryz.ntmps72
  go_wp2_with fail;refine HN.out.mono ?_;rintro r w1 ⟨rfl,rfl⟩;go_wp2_with fail;refine HT.out.mono ?_;intro r w2 hr
  cases R with
  | error q=>
   obtain ⟨E,u1⟩:=q;obtain ⟨rfl,g1⟩:=hr;go_wp2_with fail;exact ⟨rfl,rfl,g1⟩
  | ok u1=>
   obtain ⟨rfl,s1,e1,m1,gr1⟩:=hr;have c12:=m1.b.at_ 12 _ rfl;have f12:=m1.b.free 12;have hst:=fX (P:=Tryz.prog) (v:=gwV) c12 f12 rfl;go_wp2_with fail;go_end0;refine ⟨rfl,{ s1 with aU:=gwV },?_,m1.set 12 gwV (by omega) rfl rfl,gr1.trans (Gr.set _ _ _ _)⟩;show ({ s1.p with aU:=gwV }:Pst)=_;rw [e1]
   rfl
 .rw [hn] at NV;have HN:=hid NV;rw [Ny rfl];have TE:=tK (st:=0) h hs hp hu;obtain ⟨R,hR⟩:∃ R,R=u.fO σ.quiet 0:=⟨_,rfl⟩;rw [<-hR] at TE ⊢;have HT:=hid TE;clear TE hR NV h hs hp hu hn;go_enter Tryz.func72,Tryz.ntmps72
  go_wp2_with fail;refine HN.out.mono ?_;rintro r w1 ⟨rfl,rfl⟩;go_wp2_with fail;refine HT.out.mono ?_;intro r w2 hr
  cases R with
  | error q=>
   obtain ⟨E,u1⟩:=q;obtain ⟨rfl,g1⟩:=hr;go_wp2_with fail;exact ⟨rfl,rfl,g1⟩
  | ok u1=>
   obtain ⟨rfl,g1⟩:=hr;go_wp2_with fail;refine bodyPost_ret (results_none rfl _ _ _) rfl ?_;exact ⟨rfl,g1⟩
theorem uY {cp:Value} (h:Mac w0 w mb sb db s) (hs:Scr lo hi w0 sb 0 σ) (hp:s.p=u.p) (hu:UOk u) :
  Calls Tryz.prog 73 #[.pointer (some ⟨mb,0,none⟩),cp] w (dC w0 mb sb db w s (if u.none_ then u.fO σ.quiet 0 else match u.brought with
   | .error e=>.error e
   | .ok u1=>.ok { u1 with aU:=.gm })):=by
 have NV:=GZ h (yW hp)
 cases hn:u.none_
 .rw [hn] at NV;have HN:=hid NV;rw [Nr (by simp)];have TE:=eh h hp hu;obtain ⟨R,hR⟩:∃ R,R=u.brought:=⟨_,rfl⟩;rw [<-hR] at TE ⊢;have HT:=hid TE;clear TE hR NV h hs hp hu hn;go_enter Tryz.func73,Tryz.ntmps73
  go_wp2_with fail;refine HN.out.mono ?_;rintro r w1 ⟨rfl,rfl⟩;go_wp2_with fail;refine HT.out.mono ?_;intro r w2 hr
  cases R with
  | error q=>
   obtain ⟨E,u1⟩:=q;obtain ⟨rfl,g1⟩:=hr;go_wp2_with fail;exact ⟨rfl,rfl,g1⟩
  | ok u1=>
   obtain ⟨rfl,s1,e1,m1,gr1⟩:=hr;have c12:=m1.b.at_ 12 _ rfl;have f12:=m1.b.free 12;have hst:=fX (P:=Tryz.prog) (v:=gmV) c12 f12 rfl;go_wp2_with fail;go_end0;refine ⟨rfl,{ s1 with aU:=gmV },?_,m1.set 12 gmV (by omega) rfl rfl,gr1.trans (Gr.set _ _ _ _)⟩;show ({ s1.p with aU:=gmV }:Pst)=_;rw [e1]
   rfl
 .rw [hn] at NV;have HN:=hid NV;rw [Ny rfl];have TE:=tK (st:=0) h hs hp hu;obtain ⟨R,hR⟩:∃ R,R=u.fO σ.quiet 0:=⟨_,rfl⟩;rw [<-hR] at TE ⊢;have HT:=hid TE;clear TE hR NV h hs hp hu hn;go_enter Tryz.func73,Tryz.ntmps73
  go_wp2_with fail;refine HN.out.mono ?_;rintro r w1 ⟨rfl,rfl⟩;go_wp2_with fail;refine HT.out.mono ?_;intro r w2 hr
  cases R with
  | error q=>
   obtain ⟨E,u1⟩:=q;obtain ⟨rfl,g1⟩:=hr;go_wp2_with fail;exact ⟨rfl,rfl,g1⟩
  | ok u1=>
   obtain ⟨rfl,g1⟩:=hr;go_wp2_with fail;refine bodyPost_ret (results_none rfl _ _ _) rfl ?_;exact ⟨rfl,g1⟩
theorem uo {cp:Value} (h:Mac w0 w mb sb db s) (hw0:Pow w0) (hp:s.p=u.p) (hu:UOk u) :
  Calls Tryz.prog 77 #[.pointer (some ⟨mb,0,none⟩),cp] w (dC w0 mb sb db w s (u.tell (Lib.decDigits u.number))):=by
 have c8:=h.b.at_ 8 _ rfl;have e8:s.number=u.number:=congrArg Pst.number hp;rw [e8] at c8;have hlf:=hu.lf;have hln:=iq 15 u.number (by omega);have HT:Hid (∀ w1,Kp [] w w1->Calls Tryz.prog 112 #[.pointer (some ⟨mb,5,none⟩),.string (ba (Lib.decDigits u.number))] w1 (dC w0 mb sb db w1 s (u.tell (Lib.decDigits u.number)))):=hid (fun w1 k1=>iG (h.aj k1) hp hu (by omega));have HI:=Ho (u.number:Int) (by omega) (by omega) w.drew ((hw0.aj h.r.kp).aj (Kp.drew [] w));rw [Lib.itoa_nonneg] at HI;have HI:=hid HI;obtain ⟨R,hR⟩:∃ R,R=u.tell (Lib.decDigits u.number):=⟨_,rfl⟩;rw [<-hR] at HT ⊢;clear hR h hp hu hw0
 cases R with
 | error q=>
  obtain ⟨E,u1⟩:=q;go_enter Tryz.func77,Tryz.ntmps77
  go_wp2_with fail;go_region_dies
  rename_i K hK;refine HI.out.mono ?_;rintro r w1 ⟨rfl,kk,os,hw⟩;have K1:Hid (Kp [] w w1):=hid (by rw [hw];exact (Kp.drew [] w).trans (fw _ _ _));clear hw;refine hK _ _ ?_;clear hK K;refine wpAny_ready (rs:=[8]) (by kernel_rfl) (by simp) ?_;refine AllReady.cons rfl (fun K hK=>?_) AllReady.nil;go_simp;refine (HT.out _ K1.out).mono ?_;rintro r w2 ⟨rfl,g1⟩;exact ⟨rfl,rfl,g1.pre K1.out⟩
 | ok u1=>
  go_enter Tryz.func77,Tryz.ntmps77
  go_wp2_with fail;go_region_with (first | (go_at_call 112;refine (HT.out _ K1.out).mono ?_;rintro r w2 ⟨rfl,g1⟩) | (go_at_call 108;refine HI.out.mono ?_;rintro r w1 ⟨rfl,kk,os,hw⟩;have K1:Hid (Kp [] w w1):=hid (by rw [hw];exact (Kp.drew [] w).trans (fw _ _ _));clear hw))
  go_wp2_with fail;go_end0;exact ⟨rfl,g1.pre K1.out⟩
end
