import Derived.Test.YtiahkfoojjpaaaaGreatDoorS38
set_option maxRecDepth 100000
set_option maxHeartbeats 16000000
set_option linter.all false
namespace Go.Proofs.YtiahkfoojjpaaaaGreatDoor
open Go.RowKit
theorem pH(x:Nat):∀(l:List (Nat×Nat)) (c i:Nat),l.find? (fun q=>x==q.1)=none->Instr.findNow (.int .u8) (.int .u8 x) (uj c l) i=some none
 | [],_,_,_=>rfl
 | (y,f)::l,c,i,h=>by
  rw[Sa] at h
  cases hxy:(x==y)
  .rw[hxy] at h;have hn:x≠y:=by simpa using hxy
   have hi:((x:Int)==(y:Int))=false:=by rw[Qz];omega
   rw[uj];simpa[Instr.findNow,Instr.sameNow,hi,hn] using pH x l (c+1) (i+1) h
  .rw[hxy] at h
   cases h
theorem pG(x:Nat):∀(l:List (Nat×Nat)) (c i y f:Nat),l.find? (fun q=>x==q.1)=some (y,f)->∃j,Instr.findNow (.int .u8) (.int .u8 x) (uj c l) i=some (some (j,.func (.func f) #[] #[]))
 | [],_,_,_,_,h=>by cases h
 | (z,g)::l,c,i,y,f,h=>by
  rw[Sa] at h;rw[uj]
  cases hxy:(x==z)
  .rw[hxy] at h;have hn:x≠z:=by simpa using hxy
   have hi:((x:Int)==(z:Int))=false:=by rw[Qz];omega
   obtain⟨j,q⟩:=pG x l (c+1) (i+1) y f h;exact⟨j,by simpa[Instr.findNow,Instr.sameNow,hi,hn] using q⟩
  .rw[hxy] at h;injection h with h;injection h with h1 h2;subst h2;have hn:x=z:=by simpa using hxy
   subst hn;exact⟨i,by simp[Instr.findNow,Instr.sameNow]⟩
theorem Je{x:Nat}(h:iK.contains x=false):opsL.find? (fun q=>x==q.1)=none:=by
 rw[List.find?_eq_none];intro q hq e;have e:x=q.1:=by simpa using e
 have:∀q∈opsL,iK.contains q.1=true:=by decide
 rw[e,this q hq] at h
 cases h
section
variable {w0 w:World}{b k:Nat}{src:ByteArray}{σ:Sst}{r:RdS}{L:List eE}{rn x:Nat}{nt:Bool}
theorem Bb(h:x≠123/\x≠125/\x≠58/\¬(x=98\/x=116)/\¬(x=97\/x=105\/x=99)/\x≠115/\x≠121/\x≠113/\x≠119):aG src k r (dH L rn nt x)=.ok (k,r,dH L rn nt x):=by
 unfold aG;rw[show(dH L rn nt x).what=x from rfl,Qw h.1,Qw h.2.1,Qw h.2.2.1,Qw h.2.2.2.1,Qw h.2.2.2.2.1,Qw h.2.2.2.2.2.1,Qw h.2.2.2.2.2.2.1,Qw h.2.2.2.2.2.2.2.1,Qw h.2.2.2.2.2.2.2.2]
def OperX(w0:World)(b:Nat)(src:ByteArray)(k:Nat)(r:RdS)(x:Nat)(R:OpE):Prop:=
 ∃f i,Instr.findNow (.int .u8) (.int .u8 x) (uj 0 opsL) 0=some (some (i,.func (.func f) #[] #[]))/\Enters f/\∀σ,Pm σ r->iI w0 f b src k σ r R
theorem nD{f:Nat}{R:OpE}(hf:opsL.find? (fun q=>x==q.1)=some (x,f))(he:Enters f)(ho:∀σ,Pm σ r->iI w0 f b src k σ r R):OperX w0 b src k r x R:=by
 obtain⟨j,hj⟩:=pG x opsL 0 0 x f hf;exact⟨f,j,hj,he,ho⟩
theorem operN(hf:opsL.find? (fun q=>x==q.1)=some (x,101))(h:x≠123/\x≠125/\x≠58/\¬(x=98\/x=116)/\¬(x=97\/x=105\/x=99)/\x≠115/\x≠121/\x≠113/\x≠119):OperX w0 b src k r x (aG src k r (dH L rn nt x)):=
 nD hf (fun p q w=>by simp[go_sem]) (fun σ _=>by rw[Bb h];exact Ba)
theorem oper_g(hw0:Nm w0)(hx:iK.contains x=true)(hk1:1<=k)(hk:k<=src.size)(hsz:src.size<=2000)(h8:r.blocks.length<=8)(hcs:r.aD.length<=2000)(hbl:∀i∈r.blocks,i<r.aD.length):OperX w0 b src k r x (aG src k r (dH L rn nt x)):=by
 have hm:x∈iK:=by simpa using hx
 simp only[iK,Rh,RH,or_false] at hm;rcases hm with rfl|rfl|rfl|rfl|rfl|rfl|rfl|rfl|rfl|rfl|rfl|rfl|rfl|rfl|rfl|rfl|rfl|rfl|rfl|rfl|rfl|rfl|rfl|rfl|rfl
 .exact nD (f:=92) rfl (fun p q w=>by simp[go_sem]) (fun σ h=>Nh h hk1 h8 hcs)
 .exact nD (f:=93) rfl (fun p q w=>by simp[go_sem]) (fun σ h=>Ng h hk1 h8 hcs hbl)
 .exact nD (f:=94) rfl (fun p q w=>by simp[go_sem]) (fun σ h=>Jl h hk hcs)
 .exact nD (f:=95) rfl (fun p q w=>by simp[go_sem]) (fun σ h=>rV (.inl rfl) h hk hsz hcs)
 .exact nD (f:=95) rfl (fun p q w=>by simp[go_sem]) (fun σ h=>rV (.inr rfl) h hk hsz hcs)
 .exact nD (f:=96) rfl (fun p q w=>by simp[go_sem]) (fun σ _=>uI (.inl rfl))
 .exact nD (f:=96) rfl (fun p q w=>by simp[go_sem]) (fun σ _=>uI (.inr (.inl rfl)))
 .exact nD (f:=96) rfl (fun p q w=>by simp[go_sem]) (fun σ _=>uI (.inr (.inr rfl)))
 .exact nD (f:=97) rfl (fun p q w=>by simp[go_sem]) (fun σ h=>A9 hw0 h)
 .exact nD (f:=98) rfl (fun p q w=>by simp[go_sem]) (fun σ _=>yJ)
 .exact nD (f:=99) rfl (fun p q w=>by simp[go_sem]) (fun σ _=>Fq hk)
 .exact nD (f:=100) rfl (fun p q w=>by simp[go_sem]) (fun σ h=>Ni h hk)
 all_goals exact operN rfl (by omega)
theorem Eg{e:Nat}{a:eE}(hk:k<=src.size)(h:nV src k=.ok (e,a)):a.A.ok src k e:=by
 unfold nV at h
 cases hd:isD src k
 .rw[hd,Qw (by simp)] at h
  cases h36:saw src k 36
  .rw[h36,Qw (by simp)] at h
   cases hp:oL src k with
   | error q=>rw[hp] at h;cases h
   | ok q=>
    obtain⟨e1,p⟩:=q;rw[hp] at h;injection h with h;injection h with h1 h2;subst h1 h2;have h47:saw src k 47=true:=by
     cases h47:saw src k 47
     .unfold oL at hp;rw[h47,Qw (by simp)] at hp
      cases hp
     .rfl
    refine⟨hd,h36,h47,fun w b hc hw hb hc2=>?_⟩;have:=pW ⟨hc,hc2⟩ hw hb;rw[hp] at this;exact this
  .rw[h36,QB rfl] at h;injection h with h;injection h with h1 h2;subst h1 h2;exact⟨hd,h36,rfl⟩
 .rw[hd,QB rfl] at h
  cases hn:pZ src 1 1000000 k with
  | error q=>rw[hn] at h;cases h
  | ok q=>
   obtain⟨e1,v⟩:=q;rw[hn] at h;injection h with h;injection h with h1 h2;subst h1 h2;exact⟨hd,_,uK (by omega) hk hn⟩
theorem adrsE_A{e:Nat}{L:List eE}(hsz:src.size<=2000)(hk:k<=src.size)(h:gH src k=.ok (e,L)):tV src k e (L.map eE.A):=by
 unfold gH at h
 cases hA:isA src k
 .rw[hA,Qw (by simp)] at h;injection h with h;injection h with h1 h2;subst h1 h2;exact⟨hA,rfl⟩
 .rw[hA,QB rfl] at h
  cases h1:nV src k with
  | error q=>rw[h1] at h;cases h
  | ok q=>
   obtain⟨e1,a⟩:=q;rw[h1] at h;dsimp only at h
   cases h44:saw src e1 44
   .rw[h44,Qw (by simp)] at h;injection h with h;injection h with h2 h3;subst h2 h3;exact⟨Eg hk h1,h44⟩
   .rw[h44,QB rfl] at h
    cases h2:nV src (e1+1) with
    | error q=>rw[h2] at h;cases h
    | ok q=>
     obtain⟨e2,a2⟩:=q;rw[h2] at h;injection h with h;injection h with h3 h4;subst h3 h4;exact⟨e1,Eg hk h1,h44,Eg (by have:=aC h44;omega) h2⟩
theorem Ai{E pl:Nat}(hr:tU w b src k)(hw:Nm w)(hbg:b≠4)(h:nV src k=.error (E,pl)):Calls Tryz.prog 168 #[.pointer (some ⟨b,0,none⟩)] w fun r w'=>r=iG E pl/\Mv b w w':=by
 unfold nV at h;have hlt:=hr.cur.lt;have kA:=Kp.alloc [] w (.cells (jq 0 0).toArray 132);have mA:Mv b w (w.alloc (.cells (jq 0 0).toArray 132)):=Mv.alloc hlt _;have hA:=hid (hr.move mA (hr.cur.aj kA (by simp)));have HW:=hid hw;clear hw
 cases hd:isD src k
 .rw[hd,Qw (by simp)] at h
  cases h36:saw src k 36
  .rw[h36,Qw (by simp)] at h
   cases hp:oL src k with
   | ok q=>rw[hp] at h;cases h
   | error q=>
    rw[hp] at h;injection h with h;subst h;have HP:=hid hp;have HD:=hid hd;have H36:=hid h36;clear hp hd h36;go_enter Tryz.func168,Tryz.ntmps168
    go_wp2_with fail;refine(dG hA.out.cur HD.out).mono ?_;rintro r w1 ⟨rfl,h1,m1⟩;go_wp2_with fail;refine(df 36 h1 H36.out).mono ?_;rintro r w2 ⟨rfl,h2,m2⟩;have h2:Cur w2 b src k:=h2;have PG:=pW (hA.out.move (m1.trans m2) h2) (HW.out.aj (mA.trans (m1.trans m2)).kp (by simpa using Ne.symm hbg)) hbg;rw[HP.out] at PG;have HPG:=hid PG;clear PG;go_wp2_with fail;refine HPG.out.mono ?_;rintro r w3 ⟨rfl,m3⟩;go_wp2_with fail;exact⟨rfl,rfl,mA.trans (m1.trans (m2.trans m3))⟩
  .rw[h36,QB rfl] at h
   cases h
 .rw[hd,QB rfl] at h
  cases hn:pZ src 1 1000000 k with
  | ok q=>rw[hn] at h;cases h
  | error q=>
   rw[hn] at h;injection h with h;injection h with h1 h2;subst h1 h2;have HN:=hid hn;have HD:=hid hd;clear hn hd;go_enter Tryz.func168,Tryz.ntmps168
   go_wp2_with fail;refine(dG hA.out.cur HD.out).mono ?_;rintro r w1 ⟨rfl,h1,m1⟩;have NS:=num_s (lo:=1) (hi:=1000000) (by omega) (hA.out.move m1 h1);rw[HN.out] at NS;have HNS:=hid NS;clear NS;go_wp2_with fail;refine HNS.out.mono ?_;rintro r w3 ⟨rfl,m3⟩;go_wp2_with fail;exact⟨rfl,rfl,mA.trans (m1.trans m3)⟩
theorem Cj{E pl:Nat}(hs:Sr w0 w b src k σ)(hw0:Nm w0)(h:gH src k=.error (E,pl)):Calls Tryz.prog 151 #[.pointer (some ⟨b,0,none⟩)] w fun r w'=>r=iG E pl/\Kp [] w0 w':=by
 have hk:=hs.cur.le;have hbg:=(hs.nm hw0).2;have HW:=hid (hs.nm hw0).1;have hE:=hid hs.e;have HS:=hid hs;clear hs;unfold gH at h
 cases hA:isA src k
 .rw[hA,Qw (by simp)] at h
  cases h
 .rw[hA,QB rfl] at h;have HA:=hid hA;clear hA
  cases h1:nV src k with
  | error q=>
   rw[h1] at h;injection h with h;subst h;have H1:=hid h1;clear h1;go_enter Tryz.func151,Tryz.ntmps151
   go_wp2_with fail;refine(eW hE.out.cur HA.out).mono ?_;rintro r w1 ⟨rfl,h1,m1⟩;go_wp2_with fail;refine(Ai (hE.out.move m1 h1) (HW.out.aj m1.kp (by simpa using Ne.symm hbg)) hbg H1.out).mono ?_;rintro r w2 ⟨rfl,m2⟩;go_wp2_with fail;exact⟨rfl,rfl,HS.out.tw (m1.trans m2)⟩
  | ok q=>
   obtain⟨e1,a⟩:=q;rw[h1] at h;dsimp only at h;have HOK:=hid (Eg hk h1);clear h1
   cases h44:saw src e1 44
   .rw[h44,Qw (by simp)] at h
    cases h
   .rw[h44,QB rfl] at h;have H44:=hid h44;clear h44
    cases h2:nV src (e1+1) with
    | ok q=>rw[h2] at h;cases h
    | error q=>
     rw[h2] at h;injection h with h;subst h;have H2:=hid h2;clear h2;go_enter Tryz.func151,Tryz.ntmps151
     go_wp2_with fail;refine(eW hE.out.cur HA.out).mono ?_;rintro r w1 ⟨rfl,h1,m1⟩;go_wp2_with fail;refine(lM h1 (HW.out.aj m1.kp (by simpa using Ne.symm hbg)) hbg (hE.out.move m1 h1).c2 HOK.out).mono ?_;rintro r w2 ⟨va,rfl,hva,h2,m2⟩;obtain⟨x0,x1,x2,x3,rfl,_⟩:=hva.four;clear hva;have E2:=hid (hE.out.move (m1.trans m2) h2);have mA:Mv b w2 (w2.alloc (.cells #[x0,x1,x2,x3] 132)):=Mv.alloc h2.lt _;have E3:=hid (E2.out.move mA (h2.aj (Kp.alloc [] w2 _) (by simp)));go_wp2_with fail;refine(df 44 E3.out.cur H44.out).mono ?_;rintro r w3 ⟨rfl,h3,m3⟩;have h3:Cur w3 b src (e1+1):=h3;have m13:=(m1.trans m2).trans (mA.trans m3);go_wp2_with fail;refine(Ai (hE.out.move m13 h3) (HW.out.aj m13.kp (by simpa using Ne.symm hbg)) hbg H2.out).mono ?_;rintro r w4 ⟨rfl,m4⟩;go_wp2_with fail;exact⟨rfl,rfl,HS.out.tw (m13.trans m4)⟩
end
section
variable {s t:ByteArray}{a b m k:Nat}{l x:List UInt8}{c:UInt8}
theorem zH{d:Nat}(hd:d<10)(h:Rsx t k (UInt8.ofNat (48+d)::l)):isD t k=true/\dgt t k=d:=by
 have e:(UInt8.ofNat (48+d)).toNat=48+d:=QV (by show 48+d<256;omega);rw[h.isD,h.dgt,e];refine⟨?_,by omega⟩;rw[RO,decide_eq_true_eq,decide_eq_true_eq];omega
theorem numE_dg{lo hi f:Nat}(hlo:lo<=1):∀(n N:Nat) (l:List UInt8),1<=n->n<=hi->Rsx t f (Lib.decDigits n++l)->(Lib.decDigits n).length<=N->uM t lo hi f N 0 f=uM t lo hi f (N-(Lib.decDigits n).length) n (f+(Lib.decDigits n).length):=by
 intro n
 induction n using Nat.strongRecOn with
 | ind n rec=>
  intro N l h1 h2 hr hN;by_cases h10:n<10
  .rw[Lib.decDigits,dif_pos h10] at hr hN ⊢;obtain⟨q1,q2⟩:=zH h10 hr
   match N,hN with
   | N+1,hN=>
    rw[uM,QB q1,q2,Qw (by omega),show 10*0+n=n by omega]
    rfl
  .have hdd:Lib.decDigits n=Lib.decDigits (n/10)++[UInt8.ofNat (48+n%10)]:=by rw[Lib.decDigits,dif_neg h10]
   rw[hdd,QJ] at hr;rw[hdd,Qy,QP] at hN ⊢;have ih:=rec (n/10) (by omega) N ([UInt8.ofNat (48+n%10)]++l) (by omega) (by omega) hr (by omega);rw[ih];have hr2:=hr.app;obtain⟨q1,q2⟩:=zH (d:=n%10) (by omega) hr2;rw[show N-(Lib.decDigits (n/10)).length=(N-((Lib.decDigits (n/10)).length+1))+1 by omega,uM,QB q1,q2,Qw (by omega),show 10*(n/10)+n%10=n by omega]
   rfl
theorem Bg{lo hi n:Nat}(hlo:lo<=1)(h1:1<=n)(h2:n<=hi)(hr:Rsx t k (Lib.decDigits n++l))(hend:isD t (k+(Lib.decDigits n).length)=false):pZ t lo hi k=.ok (k+(Lib.decDigits n).length,n):=by
 unfold pZ;have hle:=hr.app.le;rw[numE_dg hlo n (t.size+1) l h1 h2 hr (by omega),show t.size+1-(Lib.decDigits n).length=(t.size-(Lib.decDigits n).length)+1 by omega,uM,hend,Qw (by simp)]
theorem fG(u:ByteArray)(i j:Nat):(u.extract i j).data.toList=(u.data.toList.drop i).take (j-i):=by
 rw[RS,Sl]
theorem uE:∀{n k e:Nat},ptE s n k=.ok e->saw s (e-1) 47=true
 | 0,_,_,q=>by cases q
 | n+1,k,e,q=>by
  rw[ptE] at q;split at q
  .split at q
   .rename_i c;injection q with q;rw[<-q];exact c
   .split at q
    .split at q
     .exact uE q
     .cases q
    .exact uE q
  .cases q
theorem DY{i e:Nat}(hi:i<=e)(h:saw s e 47=true):(s.extract i (e+1)).data.toList=(s.extract i e).data.toList++[47]:=by
 have hl:=aC h;rw[fG,fG,show e+1-i=(e-i)+1 by omega,Sc,Rt,show i+(e-i)=e by omega,Ro,QR hl];have e2:s[e]'hl=47:=by
  unfold saw at h;rw[dif_pos hl,beq_iff_eq] at h;have:(s[e]'hl).toNat=(47:UInt8).toNat:=by
   show _=47;omega
  exact UInt8.toNat_inj.1 this
 show _++(some (s[e]'hl)).toList=_;rw[e2]
 rfl
theorem Dr{k0 e:Nat}{p:Ptn}(hsz:s.size<=2000)(q:oL s k0=.ok (e,p))(h:Rsx t k (47::(p.txt.data.toList++47::l))):oL t k=.ok (k+1+p.txt.size+1,p):=by
 obtain⟨w1,w2,_,w4,w5⟩:=gq hsz q;unfold oL at q;rw[QB w5] at q
 cases hp:ptE s (s.size+1) (k0+1) with
 | error z=>rw[hp] at q;cases q
 | ok e1=>
  rw[hp] at q;dsimp only at q
  cases hr:iP (s.extract 0 (e1-1)) (k0+1) with
  | error z=>rw[hr] at q;cases q
  | ok z=>
   obtain⟨G,x⟩:=z;rw[hr] at q;dsimp only at q;injection q with q;injection q with q1 q2;subst q1;have hm:p.txt.size=e1-1-(k0+1):=by
    rw[w4,Q8];omega
   have hx:(s.extract (k0+1) (k0+1+(p.txt.size+1))).data.toList=p.txt.data.toList++[47]:=by
    have hl:saw s (e1-1) 47=true:=uE hp;rw[show k0+1+(p.txt.size+1)=(e1-1)+1 by omega,w4];exact DY (by omega) hl
   have h2:Rsx t (k+1) ((s.extract (k0+1) (k0+1+(p.txt.size+1))).data.toList++l):=by
    rw[hx,QJ];exact h.next
   have sg:=h2.sg (by omega);have sl:=sg.l2;obtain⟨e0,f1,f2⟩:=ptE_sg sg (s.size+1) (t.size+1) 0 e1 hp (by omega) (by omega);have he0:e0=p.txt.size+1:=by omega
   unfold oL;rw[QB (by rw[h.saw];rfl)];have f2:ptE t (t.size+1) (k+1)=.ok (k+1+e0):=f2;rw[f2,he0];dsimp only;have off:Off (s.extract 0 (e1-1)) (k0+1) (t.extract 0 (k+1+(p.txt.size+1)-1)) (k+1):=by
    refine⟨?_,?_,?_⟩
    .have e3:p.txt.data.toList=(s.extract (k0+1) (e1-1)).data.toList:=by rw[w4]
     have e4:=h.next.eq;rw[fG] at e3;rw[fG,fG,List.drop_zero,List.drop_zero,List.drop_take,List.drop_take,show e1-1-0-(k0+1)=e1-1-(k0+1) by omega,<-e3,e4,show k+1+(p.txt.size+1)-1-0-(k+1)=p.txt.data.toList.length by rw[QK];show _=p.txt.size;omega,SM]
    .rw[Q8];omega
    .rw[Q8];omega
   rw[IV off (by omega) hr];dsimp only;have e5:t.extract (k+1) (k+1+(p.txt.size+1)-1)=p.txt:=by
    rw[<-Ag (t.extract (k+1) (k+1+(p.txt.size+1)-1)),<-Ag p.txt,fG,h.next.eq,show k+1+((ba p.txt.data.toList).size+1)-1-(k+1)=p.txt.data.toList.length by rw[ay];omega,SM]
   rw[e5,<-q2]
   rfl
end
section
variable {s t:ByteArray}{a b m k:Nat}{l x:List UInt8}{c:UInt8}
theorem nR(n:Nat):∃d tl,d<10/\Lib.decDigits n=UInt8.ofNat (48+d)::tl:=by
 induction n using Nat.strongRecOn with
 | ind n rec=>
  by_cases h:n<10
  .exact⟨n,[],h,by rw[Lib.decDigits,dif_pos h]⟩
  .obtain⟨d,tl,h1,h2⟩:=rec (n/10) (by omega);exact⟨d,tl++[UInt8.ofNat (48+n%10)],h1,by rw[Lib.decDigits,dif_neg h,h2];rfl⟩
def NoD(l:List UInt8):Prop:=∀c l',l=c::l'->c.toNat<48\/57<c.toNat
theorem NoD.isD(h:NoD l)(hr:Rsx t k l):isD t k=false:=by
 cases l with
 | nil=>
  unfold Go.Proofs.YtiahkfoojjpaaaaGreatDoor.isD;rw[dif_neg (by have:=Rsx.nil hr;omega)]
 | cons c l=>
  have:=h c l rfl;rw[hr.isD,Bool.and_eq_false_iff,decide_eq_false_iff_not,decide_eq_false_iff_not];omega
theorem xH{k0 e:Nat}{A:eE}(hsz:s.size<=2000)(hk0:k0<=s.size)(q:nV s k0=.ok (e,A))(h:Rsx t k (A.txt.data.toList++l))(hl:NoD l):nV t k=.ok (k+A.txt.data.toList.length,A):=by
 unfold nV at q;split at q
 .rename_i cD
  cases hn:pZ s 1 1000000 k0 with
  | error z=>rw[hn] at q;cases q
  | ok z=>
   obtain⟨e1,v⟩:=z;rw[hn] at q;dsimp only at q;injection q with q;injection q with q1 q2;subst q2;obtain⟨_,_,v1,v2⟩:=gu hk0 hn;have v3:=(v2 cD).2;have ht:(eE.num v).txt.data.toList=Lib.decDigits v:=by
    show(ba (Lib.decDigits v)).data.toList=_;simp[ba]
   rw[ht] at h ⊢;obtain⟨d,tl,d1,d2⟩:=nR v;have hD:isD t k=true:=by
    have h':=h;rw[d2] at h';exact(zH d1 h').1
   unfold nV;rw[QB hD,Bg (QD 1) v3 v1 h (hl.isD h.app)]
 .split at q
  .injection q with q;injection q with q1 q2;subst q2;have h:Rsx t k (36::l):=h;unfold nV;rw[Qw (by rw[h.isD];decide),QB (by rw[h.saw];rfl)]
   rfl
  .cases hp:oL s k0 with
   | error z=>rw[hp] at q;cases q
   | ok z=>
    obtain⟨e1,p⟩:=z;rw[hp] at q;dsimp only at q;injection q with q;injection q with q1 q2;subst q2;have ht:(eE.pat p).txt.data.toList=47::(p.txt.data.toList++[47]):=by
     show((⟨#[47]⟩++p.txt++⟨#[47]⟩:ByteArray)).data.toList=_;simp
    rw[ht] at h ⊢;rw[QS,QJ] at h;unfold nV;rw[Qw (by rw[h.isD];decide),Qw (by rw[h.saw];decide),Dr hsz hp h];dsimp only;rw[QF,Qy,QK,QP];show Except.ok (k+1+p.txt.size+1,_)=Except.ok (k+(p.txt.size+1+1),_);rw[show k+1+p.txt.size+1=k+(p.txt.size+1+1) by omega]
def NoA(l:List UInt8):Prop:=∀c l',l=c::l'->(c.toNat<48\/57<c.toNat)/\c.toNat≠36/\c.toNat≠47/\c.toNat≠44
theorem NoA.d(h:NoA l):NoD l:=fun c l' e=>(h c l' e).1
theorem NoA.saw(h:NoA l)(hr:Rsx t k l):saw t k 44=false/\isA t k=false:=by
 unfold isA;rw[h.d.isD hr]
 cases l with
 | nil=>exact⟨dU hr _,by rw[dU hr,dU hr];rfl⟩
 | cons c l=>
  have:=h c l rfl;rw[hr.saw,hr.saw,hr.saw];refine⟨by rw[Qz];omega,?_⟩;rw[Sv,Ru,Qz,Qz];omega
theorem Hr(A:eE){k0 e:Nat}(hk0:k0<=s.size)(q:nV s k0=.ok (e,A))(h:Rsx t k (A.txt.data.toList++l)):isA t k=true:=by
 unfold isA
 cases A with
 | num v=>
  have ht:(eE.num v).txt.data.toList=Lib.decDigits v:=by
   show(ba (Lib.decDigits v)).data.toList=_;simp[ba]
  obtain⟨d,tl,d1,d2⟩:=nR v;rw[ht,d2] at h;rw[(zH d1 h).1]
  rfl
 | last=>
  have h:Rsx t k (36::l):=h;rw[h.saw 36];simp
 | pat p=>
  have ht:(eE.pat p).txt.data.toList=47::(p.txt.data.toList++[47]):=by
   show((⟨#[47]⟩++p.txt++⟨#[47]⟩:ByteArray)).data.toList=_;simp
  rw[ht,QS] at h;rw[h.saw 47];simp
theorem Jx(l:List UInt8):NoD (44::l):=fun c l' e=>by
 injection e with e _;rw[<-e];exact .inl (by decide)
theorem Lx{k0 e:Nat}{L:List eE}(hsz:s.size<=2000)(hk0:k0<=s.size)(q:gH s k0=.ok (e,L))(h:Rsx t k (ep L++l))(hl:NoA l):gH t k=.ok (k+(ep L).length,L):=by
 unfold gH at q;split at q
 .cases hA:nV s k0 with
  | error z=>rw[hA] at q;cases q
  | ok z=>
   obtain⟨e1,A⟩:=z;rw[hA] at q;dsimp only at q;split at q
   .rename_i c44
    cases hB:nV s (e1+1) with
    | error z=>rw[hB] at q;cases q
    | ok z=>
     obtain⟨e2,B⟩:=z;rw[hB] at q;dsimp only at q;injection q with q;injection q with q1 q2;subst q2;have ht:ep [A,B]=A.txt.data.toList++44::B.txt.data.toList:=by simp[ep]
     rw[ht] at h ⊢;rw[QJ,QS] at h;have hs:=aC c44;unfold gH;rw[QB (Hr A hk0 hA h),xH hsz hk0 hA h (Jx _)];dsimp only;have h2:=h.app;rw[QB (by rw[h2.saw];rfl),xH hsz (by omega) hB h2.next hl.d];dsimp only;rw[Qy,QF,show k+A.txt.data.toList.length+1+B.txt.data.toList.length=k+(A.txt.data.toList.length+(B.txt.data.toList.length+1)) by omega]
   .injection q with q;injection q with q1 q2;subst q2;have ht:ep [A]=A.txt.data.toList:=by simp[ep]
    rw[ht] at h ⊢;unfold gH;rw[QB (Hr A hk0 hA h),xH hsz hk0 hA h hl.d];dsimp only;rw[Qw (by rw[(hl.saw h.app).1];simp)]
 .injection q with q;injection q with q1 q2;subst q2;have h:Rsx t k l:=h;unfold gH;rw[Qw (by rw[(hl.saw h).2];simp)]
  rfl
end
structure lN(r r':RdS):Prop where
 cs:r'.aD=r.aD
 ns:r'.names=r.names
 rg:r'.ranges=r.ranges
 bs:r'.blocks=r.blocks
 ls:r'.labels=r.labels
 wt:r'.wanted.map (·.1)=r.wanted.map (·.1)
section
variable {s t:ByteArray}{k:Nat}{l:List UInt8}{r r' r2:RdS}{c c2:aH}
theorem Ns{j:Nat}(h:Rsx t j (10::l)):isW t j=false/\isD t j=false/\isB t j=false/\∀x:Int,x≠10->saw t j x=false:=by
 rw[h.isW,h.isD,h.isB];refine⟨by decide,by decide,by decide,fun x hx=>?_⟩;rw[h.saw,Qz];show(10:Int)≠x;omega
theorem lJ{y:ByteArray}(h:y.size≠0):(apB y).data.toList=32::y.data.toList:=by
 unfold apB;rw[Qw h];simp
theorem Ci{y:ByteArray}(h:y.size=0):(apB y).data.toList=[]:=by
 unfold apB;rw[QB h]
def Ao(r:RdS)(c:aH)(x:ByteArray)(r2:RdS)(c2:aH):Prop:=
 (∃i,r.names.findIdx? (x == ·)=some i/\r2=r/\c2={ c with name:=x,file:=i})\/(r.names.findIdx? (x == ·)=none/\r2={ r with names:=r.names++[x]}/\c2={ c with name:=x,file:=r.names.length})
theorem xi{k0 e:Nat}(q:gQ s k0 r c=.ok (e,r2,c2)):∃x,dT s k0=.ok (e,x)/\Ao r c x r2 c2:=by
 grind [gQ,Ao]
theorem zw{k0 e:Nat}{x:ByteArray}(hk0:k0<=s.size)(hw:dT s k0=.ok (e,x))(hf:Ao r c x r2 c2)(hs:lN r r')(h:Rsx t k ((apB x).data.toList++10::l)):∃r2',gQ t k r' c=.ok (k+(apB x).data.toList.length,r2',c2)/\lN r2 r2':=by
 obtain⟨w1,_,_,_,_,w6⟩:=dB hk0 hw;have hx:x.size≠0:=by omega
 rw[lJ hx] at h ⊢;rw[QS] at h;have h2:=h.next.app;rw[show k+1+x.data.toList.length=k+1+x.size by rw[QK];rfl] at h2;have e1:=oZ hk0 hw h (Ns h2).1;unfold gQ;rw[e1];dsimp only;rw[hs.ns,QF,QK,show k+1+x.size=k+(x.data.size+1) by show k+1+x.size=k+(x.size+1);omega];rcases hf with⟨i,hf,rfl,rfl⟩|⟨hf,rfl,rfl⟩
 .rw[hf];exact⟨r',rfl,hs⟩
 .rw[hf];dsimp only;exact⟨_,rfl,⟨hs.cs,by show r.names++[x]=_;rfl,hs.rg,hs.bs,hs.ls,hs.wt⟩⟩
def FlgR(s:ByteArray)(r:RdS)(c:aH)(r2:RdS)(c2:aH):Prop:=
 ∃A N P,N<=1000000/\((r2=r/\c2={ c with all:=A,number:=N,print:=P})\/∃k0 e x,k0<=s.size/\dT s k0=.ok (e,x)/\Ao r { c with all:=A,number:=N,print:=P} x r2 c2)
theorem iV:∀{n k0 e:Nat} {c:aH},k0<=s.size->c.number<=1000000->aP s n k0 r c=.ok (e,r2,c2)->FlgR s r c r2 c2
 | 0,_,_,_,_,_,q=>by cases q
 | n+1,k0,e,c,hk,hn,q=>by
  rw[aP] at q;split at q
  .rename_i h;obtain⟨A,N,P,h1,h2⟩:=iV (c:={ c with all:=true}) (by have:=aC h.2;omega) hn q;exact⟨A,N,P,h1,h2⟩
  .split at q
   .rename_i h;obtain⟨A,N,P,h1,h2⟩:=iV (c:={ c with print:=true}) (by have:=aC h.2;omega) hn q;exact⟨A,N,P,h1,h2⟩
   .split at q
    .cases hv:pZ s 1 1000000 k0 with
     | error z=>rw[hv] at q;cases q
     | ok z=>
      obtain⟨e1,v⟩:=z;rw[hv] at q;obtain⟨_,v2,v3,_⟩:=gu hk hv;obtain⟨A,N,P,h1,h2⟩:=iV v2 (c:={ c with number:=v}) v3 q;exact⟨A,N,P,h1,h2⟩
    .split at q
     .rename_i h;obtain⟨x,w1,w2⟩:=xi q;have e1:({ c with all:=c.all,number:=c.number,print:=c.print}:aH)=c:=rfl;exact⟨c.all,c.number,c.print,hn,.inr ⟨k0+1,e,x,aC h,w1,by rw[e1];exact w2⟩⟩
     .injection q with q;injection q with q1 q2;injection q2 with q2 q3;subst q2 q3;exact⟨c.all,c.number,c.print,hn,.inl ⟨rfl,rfl⟩⟩
theorem flag_g{n:Nat}(h:Rsx t k (103::l))(ha:c.all=false):aP t (n+1) k r c=aP t n (k+1) r { c with all:=true}:=by
 rw[aP,QB ⟨ha,by rw[h.saw];rfl⟩]
theorem flag_p{n:Nat}(h:Rsx t k (112::l))(ha:c.print=false):aP t (n+1) k r c=aP t n (k+1) r { c with print:=true}:=by
 rw[aP,Qw (fun q=>by have:=q.2;rw[h.saw] at this;revert this;decide),QB ⟨ha,by rw[h.saw];rfl⟩]
theorem flag_n{n N:Nat}(h:Rsx t k (Lib.decDigits N++l))(hl:NoD l)(h1:1<=N)(h2:N<=1000000)(hn:c.number=0):aP t (n+1) k r c=aP t n (k+(Lib.decDigits N).length) r { c with number:=N}:=by
 obtain⟨d,tl,d1,d2⟩:=nR N;have h':=h;rw[d2] at h';have hD:=(zH d1 h').1;have e:(UInt8.ofNat (48+d)).toNat=48+d:=QV (by show 48+d<256;omega);rw[aP,Qw (fun q=>by have:=q.2;rw[h'.saw,e,beq_iff_eq] at this;omega),Qw (fun q=>by have:=q.2;rw[h'.saw,e,beq_iff_eq] at this;omega),QB ⟨hn,hD⟩,Bg (QD 1) h1 h2 h (hl.isD h.app)]
theorem flag_w{n:Nat}(h:Rsx t k (119::l)):aP t (n+1) k r c=gQ t (k+1) r c:=by
 rw[aP,Qw (fun q=>by have:=q.2;rw[h.saw] at this;revert this;decide),Qw (fun q=>by have:=q.2;rw[h.saw] at this;revert this;decide),Qw (fun q=>by have:=q.2;rw[h.isD] at this;revert this;decide),QB (by rw[h.saw];rfl)]
theorem flag_e{n:Nat}(h:Rsx t k (10::l)):aP t (n+1) k r c=.ok (k,r,c):=by
 obtain⟨_,h2,_,h4⟩:=Ns h;rw[aP,Qw (fun q=>by have:=q.2;rw[h4 103 (by omega)] at this;cases this),Qw (fun q=>by have:=q.2;rw[h4 112 (by omega)] at this;cases this),Qw (fun q=>by have:=q.2;rw[h2] at this;cases this),Qw (by rw[h4 119 (by omega)];simp)]
theorem Gi{n:Nat}(ha:c.all=false)(hn:c.number=0)(hp:c.print=false)(hm:c.name.size=0)(hf:FlgR s r c r2 c2)(hs:lN r r')(h:Rsx t k (c2.flg.data.toList++10::l)):∃r2',aP t (n+4) k r' c=.ok (k+c2.flg.data.toList.length,r2',c2)/\lN r2 r2':=by
 obtain⟨A,N,P,hN,hf⟩:=hf
 -- what stands in the text
 obtain⟨W,hW,hWr⟩:∃W:List UInt8,c2.flg.data.toList=(if A then [103] else [])++((if N=0 then [] else Lib.decDigits N)++((if P then [112] else [])++W))/\∀(n' j:Nat),Rsx t j (W++10::l)->(NoD (W++10::l))/\∃r2',aP t (n'+1) j r' { c with all:=A,number:=N,print:=P}=.ok (j+W.length,r2',c2)/\lN r2 r2':=by
  rcases hf with⟨rfl,rfl⟩|⟨k0,e,x,hk0,hw,hF⟩
  .refine⟨[],?_,fun n' j hj=>⟨?_,r',?_,hs⟩⟩
   .unfold aH.flg aH.flg2 aH.flg1 uO;rw[QB hm];dsimp only
    cases A<;>cases P<;>by_cases h0:N=0<;>simp[h0,ba]
   .intro c' l' e;injection e with e _;rw[<-e];exact .inl (by decide)
   .exact flag_e hj
  .obtain⟨w1,_,_,_,_,w6⟩:=dB hk0 hw;have hx:x.size≠0:=by omega
   have hc2:c2.name=x/\c2.all=A/\c2.number=N/\c2.print=P:=by
    rcases hF with⟨i,_,_,rfl⟩|⟨_,_,rfl⟩
    .exact⟨rfl,rfl,rfl,rfl⟩
    .exact⟨rfl,rfl,rfl,rfl⟩
   refine⟨119::(apB x).data.toList,?_,fun n' j hj=>⟨?_,?_⟩⟩
   .unfold aH.flg aH.flg2 aH.flg1 uO;rw[hc2.1,hc2.2.1,hc2.2.2.1,hc2.2.2.2,Qw hx]
    cases A<;>cases P<;>by_cases h0:N=0<;>simp[h0,ba]
   .intro c' l' e;injection e with e _;rw[<-e];exact .inr (by decide)
   .rw[QS] at hj;obtain⟨r2',q1,q2⟩:=zw hk0 hw hF hs hj.next;refine⟨r2',?_,q2⟩;rw[flag_w hj,q1,QF,show j+1+(apB x).data.toList.length=j+((apB x).data.toList.length+1) by omega]
 rw[hW] at h ⊢;simp only[QJ] at h;have S1:∃n1,n+3<=n1/\aP t (n+4) k r' c=aP t n1 (k+(if A then [103] else ([]:List UInt8)).length) r' { c with all:=A}:=by
  cases A with
  | true=>exact⟨n+3,QD _,flag_g (l:=_) (by exact h) ha⟩
  | false=>exact⟨n+4,by omega,by rw[show({ c with all:=false}:aH)=c by rw[<-ha]];rfl⟩
 have h1:=h.app;obtain⟨n1,g1,S1⟩:=S1;obtain⟨k1,hk1⟩:∃k1,k1=k+(if A then [103] else ([]:List UInt8)).length:=⟨_,rfl⟩;rw[<-hk1] at S1 h1;have hd2:NoD ((if P then [112] else ([]:List UInt8))++(W++10::l)):=by
  cases P with
  | true=>
   intro c' l' e;injection e with e _;rw[<-e];exact .inr (by decide)
  | false=>
   have:=h1.app.app;exact(hWr 0 _ this).1
 have S2:∃n2,n+2<=n2/\aP t n1 k1 r' { c with all:=A}=aP t n2 (k1+(if N=0 then ([]:List UInt8) else Lib.decDigits N).length) r' { c with all:=A,number:=N}:=by
  by_cases h0:N=0
  .rw[QB h0];refine⟨n1,by omega,?_⟩;rw[show({ c with all:=A,number:=N}:aH)={ c with all:=A} by rw[h0,<-hn]]
   rfl
  .rw[Qw h0] at h1 ⊢
   match n1,g1 with
   | n1+1,g1=>exact⟨n1,by omega,flag_n (c:={ c with all:=A}) h1 hd2 (by omega) hN hn⟩
 have h2:=h1.app;obtain⟨n2,g2,S2⟩:=S2;obtain⟨k2,hk2⟩:∃k2,k2=k1+(if N=0 then ([]:List UInt8) else Lib.decDigits N).length:=⟨_,rfl⟩;rw[<-hk2] at S2 h2;have S3:∃n3,n+1<=n3/\aP t n2 k2 r' { c with all:=A,number:=N}=aP t n3 (k2+(if P then [112] else ([]:List UInt8)).length) r' { c with all:=A,number:=N,print:=P}:=by
  cases P with
  | true=>
   match n2,g2 with
   | n2+1,g2=>exact⟨n2,by omega,flag_p (c:={ c with all:=A,number:=N}) (l:=_) (by exact h2) hp⟩
  | false=>exact⟨n2,by omega,by rw[show({ c with all:=A,number:=N,print:=false}:aH)={ c with all:=A,number:=N} by rw[<-hp]];rfl⟩
 have h3:=h2.app;obtain⟨n3,g3,S3⟩:=S3
 match n3,g3 with
 | n3+1,g3=>
  obtain⟨_,r2',q1,q2⟩:=hWr n3 _ h3;refine⟨r2',?_,q2⟩;rw[S1,S2,S3,q1];simp only[Qy];rw[hk2,hk1,show ∀a b c d:Nat,k+a+b+c+d=k+(a+(b+(c+d))) from fun a b c d=>by omega]
end
end Go.Proofs.YtiahkfoojjpaaaaGreatDoor
namespace Go.Proofs.YtiahkfoojjpaaaaGreatDoor
open Go.RowKit Go.Shelf
section
variable {P:Program}{ops:Array Oper}{Q:Exit->Act->World->Prop}{md:Region.Mode}{l m:Nat}
def pY(ops:Array Oper):Bool:=ops.all fun o=>match o.op with | .defer _=>false|_=>true
theorem yK(h:pY ops=true){i:Nat}{o:Oper}(hi:ops[i]? = some o):∀c,o.op≠.defer c:=by
 intro c hc;unfold pY at h;rw[Array.all_eq_true] at h;obtain⟨hl,e⟩:=Array.getElem?_eq_some_iff.1 hi;have:=h i hl;rw[e,hc] at this
 cases this
theorem tY{o:Oper}{a:Act}{w:World}{K:Act->World->Prop}(hd:∀c,o.op≠.defer c)(h:o.wp P a w K Q):o.wpIn (Fence.wide.inRound l) m P a w K Q:=by
 unfold Oper.wpIn Oper.wp at *;refine⟨fun _ _=>trivial,?_⟩;rw[Oper.semAt_eq _ _ _ hd];generalize (execOp a.eval o).run P w=r at *
 cases r with
 | ok x w'=>
  cases x<;>simp only[Oper.upon,Oper.uponIn] at h ⊢
  case value=>exact h
  case skip=>exact h
  case defer=>exact h
  case enter=>exact⟨fun q=>(nomatch q),callsIn_wide.2 h⟩
  case row=>
   refine⟨fun q=>(nomatch q),fun c cs _=>?_⟩;obtain⟨v,w2,h1,h2⟩:=h c cs;exact⟨v,w2,h1,stepsIn_wide.2 h2⟩
 | halt x w'=>cases x<;>simp only[Oper.upon,Oper.uponIn] at h ⊢ <;> exact h
theorem dK(hd:pY ops=true)(hL:¬LetsOut Q):∀(fuel:Nat) (listed:Array Bool) (a:Act) (w:World),wpAny P md ops Q fuel listed a w->wpAnyIn (Fence.wide.inRound l) m P md ops Q fuel listed a w
 | 0,_,_,_,h=>h
 | fuel+1,listed,a,w,h=>⟨h.1,fun i hi=>by
   have h1:=h.2 i hi;unfold wpOp at h1;unfold wpOpIn;split
   .rename_i ho;simp only[ho] at h1;exact dK hd hL fuel _ _ _ h1
   .rename_i o ho;simp only[ho] at h1;split
    .rename_i hw;rw[QB hw] at h1;rcases h1 with h1|h1
     .exact Oper.wpIn_mono (fun a' w' q=>dK hd hL fuel _ a' w' q) (tY (yK hd ho) h1)
     .exact absurd h1.2 hL
    .rename_i hw;rw[Qw hw] at h1
     exact⟨fun _ _=>trivial,dK hd hL fuel _ _ _ h1⟩⟩
def qP(Q:Exit->Act->World->Prop):Exit->Act->World->Prop
 | .normal,a,w=>Q .normal a w
 | _,_,_=>False
theorem qP.normal{a:Act}{w:World}(h:Q .normal a w):qP Q .normal a w:=h
theorem qP.imp:∀(e:Exit) (a:Act) (w:World),qP Q e a w->Q e a w:=fun e a w h=>by
 cases e<;>first|exact h|exact(h:False).elim
theorem ju{id:Nat}{a:Act}{w:World}(S:World->Prop)(z:Nat)(hm:P.follows .mixedOrders=true)(hd:pY ops=true)(h:dZ P .any ops (qP Q) S z ops.size (Array.replicate ops.size false) a w.drew):(Code.region id ops true).wpIn (Fence.wide.inRound l) m P Q a w:=
 Code.wpIn_mono qP.imp (wpIn_region_any hm (dK hd (fun⟨_,_,q⟩=>q) _ _ _ _ (lS _ _ _ _ h)))
theorem nk{id:Nat}{a:Act}{w:World}(S:World->Prop)(hm:P.follows .mixedOrders=true)(hd:pY ops=true)(h:wpAnyH P .any ops (qP Q) S ops.size (Array.replicate ops.size false) a w.drew):(Code.region id ops true).wpIn (Fence.wide.inRound l) m P Q a w:=
 Code.wpIn_mono qP.imp (wpIn_region_any hm (dK hd (fun⟨_,_,q⟩=>q) _ _ _ _ (wpAny_of_held _ _ _ _ h)))
theorem ry{S:World->Prop}{i:Nat}{o:Oper}{fuel:Nat}{listed:Array Bool}{a:Act}{w:World}(hr:Region.ready md ops listed=[i])(ho:ops[i]? = some o)(h:∀K:Act->World->Prop,Shut (∀a' w',S w'->wpAnyH P md ops Q S fuel (listed.setIfInBounds i true) a' w'->K a' w')->if Region.wanted o (yielded ops a.tmps)=true then Oper.wp P o a w K Q else K (a.put o.dst undef) w):wpAnyH P md ops Q S (fuel+1) listed a w:=by
 refine⟨fun h0=>(by rw[hr] at h0;cases h0),fun j hj=>?_⟩;rw[hr] at hj;have e:=List.mem_singleton.1 hj;subst e;exact wpOp_step ho (fun K hK=>h K (fun a' w' h1 h2=>hK a' w' ⟨h1,h2⟩))
theorem AN{F:Fence}{r:Loop}{W:World}{args:Array Value}{R:Ending->World->Prop}(hF:F.fn r.fn)(hl:W.heap[l]? = some (.loop r))(hr:r.state=.ready)(hp:r.pending=none)(hs:args.size=r.params.size)(h:∀(rb:Loop) (K:Act->World->Prop),{ rb with state:=.ready,pending:=none}=r->(∀a₁,r.body.wpIn (F.inRound l) m P (roundPost P l R) a₁ (W.putObj l (.loop rb))->K a₁ W) ->
    r.assign.wpIn (F.inRound l) m P (Exit.then K (fun _ _ _=>False)) { tmps:=(r.params.zip args).foldl (fun tmps (t,a)=>tmps.setIfInBounds t a) r.tmps,defers:=[]} W):YieldAt F m P l args W R:=by
 refine⟨r.fn,_,r.assign,r.body,run_yield hl hs,roundIn_of_wpIn hF ?_⟩;refine h { r with state:=.busy} _ ?_ (fun a₁ hb=>⟨_,run_beginRound hl hr,hb⟩)
 cases r;simp only at hr hp;rw[hr,hp]
end
end Go.Proofs.YtiahkfoojjpaaaaGreatDoor
namespace Go.Proofs.YtiahkfoojjpaaaaGreatDoor
open Go.ChangeShapes Go.WideShapes Go.ChangeAt Go.RowKit
theorem gNamesF:Tryz.prog.globalNamed "ribbon/pattern.names" = some 4 := by kernel_rfl
theorem Ee{l:List Value}{k j:Nat}{v:Value}(h:(((l.drop k).take 2).drop j).take 1=[v])(hj:j<2):l[k+j]? = some v:=by
 have h2:=congrArg (fun x=>x[0]?) h;simp only[Rr,Rt,SR,Rv] at h2;rw[QB (by omega),QB hj] at h2;exact h2
theorem zR{s:ByteArray}{l:List UInt8}(h:s.data.toList=l):s=⟨l.toArray⟩:=by
 cases s;subst h;simp
theorem uEntryF:∃fs:Array Field,Tryz.prog.underlying 256=some (.struct fs)/\∃f0 f1,fs[0]? = some f0/\fs[1]? = some f1/\fs.size=2/\f0.type=9/\f0.offset=0/\f1.type=9/\f1.offset=1:=
 ⟨_,Tryz.underlying256,_,_,rfl,rfl,rfl,rfl,rfl,rfl,rfl⟩
theorem Kh{W:World}(h:laidMetH Tryz.prog Bn W):∀i,i<7->∃s t:ByteArray,W.cell? ⟨4,i*2,none⟩=some (.string s)/\W.cell? ⟨4,i*2+1,none⟩=some (.string t) /\
  (match (Rows.laid_ribbon_pattern_names:DataW Unit) with | .agg l=>l|_=>[])[i]? = some (.agg [.lit (.string s.data.toList),.lit (.string t.data.toList)]):=by
 rw[MakeChecks.laidMetH_plain _ _ _ (by kernel_rfl)] at h;obtain⟨ps,hl,_,_⟩:=h;obtain⟨_,_,_,_,_,q1,_,_,_,_,hl1,_⟩:=hl;obtain⟨_,_,_,_,_,q2,_,_,_,_,hl2,_⟩:=hl1;obtain⟨_,_,_,_,_,q3,_,_,_,_,hl3,_⟩:=hl2;obtain⟨g,t,cs,fuel,p,q,hg,ht,hv,hd,_,_⟩:=hl3;obtain rfl:=Option.some.inj (gNamesF.symm.trans hg);obtain rfl:=Option.some.inj ((show(Tryz.prog.globals[4]?).map (·.type)=some 257 by kernel_rfl).symm.trans ht);obtain⟨xs,m,_,ex,_,hl,hel⟩:=DataW.trod_array Tryz.underlying257 hd;have c2:Tryz.prog.cellsOf 256=2:=by kernel_rfl
 have c1:Tryz.prog.cellsOf 9=1:=by kernel_rfl
 have us:Tryz.prog.underlying 9=some .string:=by kernel_rfl
 obtain⟨fs,ufs,f0,f1,e0,e1,esz,t0,o0,t1,o1⟩:=uEntryF;intro i hi;have hE:=hel i hi;rw[c2,QA (by omega)] at hE;obtain⟨ys,n,_,ey,_,hyl,hys⟩:=DataW.trod_struct ufs hE;rw[esz] at hyl;have h0:=hys 0 f0 e0;have h1:=hys 1 f1 e1;rw[t0,o0,c1,QA (by omega)] at h0;rw[t1,o1,c1,QA (by omega)] at h1;obtain⟨s,es,es',_⟩:=DataW.trod_string us h0;obtain⟨u,eu,eu',_⟩:=DataW.trod_string us h1;have d0:=Ee es (by omega);have d1:=Ee eu (by omega);refine⟨s,u,?_,?_,?_⟩
 .rw[World.var?_cell hg hv];simpa using d0
 .rw[World.var?_cell hg hv];simpa using d1
 .have e3:(xs.map (·.1))[i]? = some (.agg (ys.map (·.1))):=by rw[QX,QA (by omega:i<xs.length),ey];rfl
  have e4:(Rows.laid_ribbon_pattern_names:DataW Unit)=.agg (xs.map (·.1)):=(Prod.mk.inj ex).1;rw[e4];show(xs.map (·.1))[i]? = _;rw[e3]
  match ys,hyl,es',eu' with
  | [y0,y1],_,es',eu'=>
   have a0:y0=_:=es';have a1:y1=_:=eu';rw[a0,a1];rfl
theorem nm_ofF{W:World}(h:laidMetH Tryz.prog Bn W):Nm W:=by
 have key:=Kh h;have all:∀i,i<7->W.cell? ⟨4,i*2,none⟩=some (.string (nmN i))/\W.cell? ⟨4,i*2+1,none⟩=some (.string (nmS i)):=by
  intro i hi;obtain⟨s,t,h1,h2,h3⟩:=key i hi
  match i,hi with
  | 0,_|1,_|2,_|3,_|4,_|5,_|6,_=>
   simp only[Rows.laid_ribbon_pattern_names,Rv,List.getElem?_cons_succ,Option.some.injEq,DataW.agg.injEq,List.cons.injEq,DataW.lit.injEq,Lit.string.injEq,and_true] at h3;rw[h1,h2,zR h3.1.symm,zR h3.2.symm];exact⟨rfl,rfl⟩
 exact⟨World.block_lt_of_cell? _ _ (all 0 (by omega)).1,fun i hi=>(all i hi).1,fun i hi=>(all i hi).2⟩
theorem MQ:(Rows.laid_internal_strconv_uint64pow10:DataW Unit)=Lib.tabData .u64 Lib.pow10Tab:=by kernel_rfl
noncomputable def gP:Nat := (Tryz.prog.globalNamed "internal/strconv.uint64pow10").getD 0
noncomputable def tP:TypeId:=((Tryz.prog.globals[gP]?).map (·.type)).getD 0
theorem gPow:∃g t, Tryz.prog.globalNamed "internal/strconv.uint64pow10" = some g /\ (Tryz.prog.globals[g]?).map (·.type) = some t /\ Tryz.prog.underlying t = some (.array 20 148) /\ Tryz.prog.cellsOf t = 20 := ⟨gP, tP, by kernel_rfl, by kernel_rfl, by kernel_rfl, by kernel_rfl⟩
theorem pow_of{W:World}(h:laidMetH Tryz.prog Bn W):Pow W:=by
 rw[MakeChecks.laidMetH_plain _ _ _ (by kernel_rfl)] at h;obtain⟨ps,hl,_,_⟩:=h;obtain⟨_,_,_,_,_,q1,_,_,_,_,hl1,_⟩:=hl;obtain⟨_,_,_,_,_,q2,_,_,_,_,hl2,_⟩:=hl1;obtain⟨g',t',cs,fuel,p,q,hg',ht',hvar,hd,_,_⟩:=hl2;obtain⟨g,t,hg,hty,ht,hct⟩:=gPow;obtain rfl:=Option.some.inj (hg.symm.trans hg');obtain rfl:=Option.some.inj (hty.symm.trans ht');rw[MQ] at hd;unfold Pow Lib.TabIs;rw[hvar,<-Lib.cells_of_tab ht (by kernel_rfl) (by kernel_rfl) hct hd]
