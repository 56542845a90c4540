import Derived.Test.YtiahkfoojjpaaaaGreatDoorU23
import Derived.Test.YtiahkfoojjpaaaaGreatDoorU27
set_option maxRecDepth 100000
set_option maxHeartbeats 16000000
set_option linter.all false
namespace Go.Proofs.YtiahkfoojjpaaaaGreatDoor
open Go.RowKit
section
variable {w:World} {b k g pl:Nat} {src:ByteArray}
theorem oK (h:k < src.size):dgP src k=(src[k]'h).toNat - 48:=by unfold dgP;rw [dif_pos h]
theorem num_g:match numP src k with
  | .ok (l,v)=>oX src k l v/\v<=20/\k < l/\l<=src.size
  | .error pl=>∀ g,NumF src k g pl:=by
 unfold numP
 cases h1:dig src k
 .rw [Nr (by simp)];exact fun g=>numF_no h1
 .rw [Ny rfl];obtain ⟨hk,q1,q2⟩:=jx h1
  cases h2:dig src (k+1)
  .rw [Nr (by simp)];refine ⟨.inl ⟨hk,h1,h2,rfl,oK hk⟩,?_,by omega,by omega⟩;rw [oK hk];omega
  .rw [Ny rfl];obtain ⟨hk2,q3,q4⟩:=jx h2;by_cases hv:20 < 10 * dgP src k+dgP src (k+1)
   .rw [Ny hv];exact fun g=>Ko hk hk2 h1 h2 (by rw [oK hk,oK hk2]) hv
   .rw [Nr hv];refine ⟨.inr ⟨hk,hk2,h1,h2,rfl,by rw [oK hk,oK hk2],?_,by omega⟩,by omega,by omega,by omega⟩;rw [oK hk] at hv;omega
theorem CD {l least m:Nat} (hr:Rd w b src k g) (h125:saw src k 125=false) (hn:oX src k l m) (hlt:m < least) (hd:l=src.size\/dig src l=true) :
  Calls Tryz.prog 201 #[.pointer (some ⟨b,0,none⟩),.int .i64 least] w fun e w'=>e=.returned (.int .i64 m)/\Rd w' b src l g/\Kp [b] w w':=by
 have hcmp:(m:Int) < (least:Int):=by omega
 have hcmp':decide ((m:Int) < (least:Int))=true:=by simpa using hlt
 have hcmp2:decide (m < least)=true:=by simpa using hlt
 go_enter Tryz.func201,Tryz.ntmps201
 go_wp2_with fail;refine (ep 125 hr h125).mono ?_;rintro e u1 ⟨rfl,r1,s1⟩;go_wp2_with fail;refine (dJ r1 hn).mono ?_;rintro e u2 ⟨rfl,r2,s2⟩;go_wp2_with fail;by_cases hl:l=src.size
 .have he:((l:Int) == (src.size:Int))=true:=by simp [hl]
  have HL:=hid hl;clear hl hd;refine (fN r2 he).mono ?_;rintro e u3 ⟨rfl,r3,s3⟩;go_wp2_with fail;go_ret;exact ⟨rfl,r3,s1.trans (s2.trans s3)⟩
 .have hd2:dig src l=true:=hd.resolve_left hl;have he:((l:Int) == (src.size:Int))=false:=by simp;omega
  clear hd;refine (fN r2 he).mono ?_;rintro e u3 ⟨rfl,r3,s3⟩;go_wp2_with fail;refine (eZ r3 hd2).mono ?_;rintro e u4 ⟨rfl,r4,s4⟩;go_wp2_with fail;go_ret;exact ⟨rfl,r4,s1.trans (s2.trans (s3.trans s4))⟩
theorem I2 {k1 l least m:Nat} (hn:oX src k k1 least) (h44:saw src k1 44=true) (h125:saw src (k1+1) 125=false) (hu:oX src (k1+1) l m) (hlt:m < least) (hd:l=src.size\/dig src l=true):BndF src k g l:=by
 intro w b hr;have h5:saw src l 125=false:=by
  rcases hd with e | e
  .exact nP e
  .obtain ⟨hl,q1,q2⟩:=jx e;unfold saw;rw [dif_pos hl,Nz];omega
 go_enter Tryz.func192,Tryz.ntmps192
 go_wp2_with fail;refine (dJ hr hn).mono ?_;rintro e u1 ⟨rfl,r1,s1⟩;go_wp2_with fail;refine (aI 44 r1 h44).mono ?_;rintro e u2 ⟨rfl,r2,s2⟩;go_wp2_with fail;refine (CD r2 h125 hu hlt hd).mono ?_;rintro e u3 ⟨rfl,r3,s3⟩;go_wp2_with fail;refine (fL 125 r3 h5).mono ?_;rintro e u4 ⟨rfl,s4⟩;go_wp2_with fail;exact ⟨rfl,rfl,s1.trans (s2.trans (s3.trans s4))⟩
theorem bnd_g:match bndP src k with
  | .ok (l,a,b)=>uc src k l a b/\okB a b/\k < l/\l<=src.size
  | .error pl=>∀ g,BndF src k g pl:=by
 have h1:=num_g (src:=src) (k:=k);unfold bndP
 cases hn:numP src k with
 | error pl=>rw [hn] at h1;exact fun g=>Md (h1 g)
 | ok p=>
  obtain ⟨l,a⟩:=p;rw [hn] at h1;obtain ⟨n1,a20,hkl,hls⟩:=h1;dsimp only
  cases h44:saw src l 44
  .rw [Nr (by simp)]
   cases h125:saw src l 125
   .rw [Nr (by simp)];exact fun g=>I0 n1 h44 h125
   .rw [Ny rfl];have:=aK h125;exact ⟨⟨l,n1,.inl ⟨h44,rfl,h125,rfl⟩⟩,⟨Nw _,a20⟩,by omega,by omega⟩
  .rw [Ny rfl];have hl4:=aK h44;unfold upP
   cases h125:saw src (l+1) 125
   .rw [Nr (by simp)];have h2:=num_g (src:=src) (k:=l+1)
    cases hn2:numP src (l+1) with
    | error pl=>rw [hn2] at h2;exact fun g=>IZ n1 h44 (upF_num h125 (h2 g))
    | ok p=>
     obtain ⟨l2,v⟩:=p;rw [hn2] at h2;obtain ⟨n2,v20,hkl2,hls2⟩:=h2;dsimp only;by_cases hv:v < a
     .by_cases hx:l2 < src.size/\dig src l2=false
      .rw [Ny ⟨hv,hx⟩];exact fun g=>IZ n1 h44 (JF h125 n2 hv hx.1 hx.2 (by omega))
      .rw [Nr (fun q=>hx q.2)];have hd:l2=src.size\/dig src l2=true:=by
        by_cases e:l2=src.size
        .exact .inl e
        .right
         cases hh:dig src l2
         .exact absurd ⟨by omega,hh⟩ hx
         .rfl
       have h5:saw src l2 125=false:=by
        rcases hd with e | e
        .exact nP e
        .obtain ⟨hl,q1,q2⟩:=jx e;unfold saw;rw [dif_pos hl,Nz];omega
       dsimp only;rw [h5,Nr (by simp)];exact fun g=>I2 n1 h44 h125 n2 hv hd
     .rw [Nr (fun q=>hv q.1)];dsimp only;have hu:UpOk src (l+1) l2 a (some v):=⟨h125,n2,by omega⟩
      cases h5:saw src l2 125
      .rw [Nr (by simp)];exact fun g=>DZ n1 h44 hu h5
      .rw [Ny rfl];have:=aK h5;exact ⟨⟨l,n1,.inr ⟨h44,l2,hu,h5,rfl⟩⟩,⟨by omega,v20⟩,by omega,by omega⟩
   .rw [Ny rfl];dsimp only;rw [h125,Ny rfl];have:=aK h125;exact ⟨⟨l,n1,.inr ⟨h44,l+1,⟨h125,rfl⟩,h125,rfl⟩⟩,a20,by omega,by omega⟩
theorem Gc (h1:saw src k 42=true):RepN src k (k+1) g (fun p=>lO p 0 none):=by
 intro w b lo hi i nd hbl hhw hr;have HI:=hid nd;clear nd;show Calls Tryz.prog 182 #[.pointer (some ⟨b,0,none⟩),.iface i.tv i.xv] w _;go_enter Tryz.func182,Tryz.ntmps182
 go_wp2_with fail;refine (aI 42 hr h1).mono ?_;rintro e w1 ⟨rfl,r1,k1⟩;go_wp2_with fail;go_ret;exact ⟨jo i 0 none,rfl,rfl,(Bs HI.out (show okB 0 none by show (0:Nat)<=20;omega)).kept hbl hhw k1,r1,k1⟩
theorem JZ (h1:saw src k 42=false) (h2:saw src k 43=false) (h3:saw src k 63=true):RepN src k (k+1) g (fun p=>lO p 0 (some 1)):=by
 intro w b lo hi i nd hbl hhw hr;have HI:=hid nd;clear nd;show Calls Tryz.prog 182 #[.pointer (some ⟨b,0,none⟩),.iface i.tv i.xv] w _;go_enter Tryz.func182,Tryz.ntmps182
 go_wp2_with fail;refine (aD 42 hr h1).mono ?_;rintro e w1 ⟨rfl,r1,k1⟩;go_wp2_with fail;refine (aD 43 r1 h2).mono ?_;rintro e w2 ⟨rfl,r2,k2⟩;go_wp2_with fail;refine (aI 63 r2 h3).mono ?_;rintro e w3 ⟨rfl,r3,k3⟩;have K:=k1.trans (k2.trans k3);go_wp2_with fail;go_ret;exact ⟨jo i 0 (some 1),rfl,rfl,(Bs HI.out (show okB 0 (some 1) from ⟨by omega,by omega⟩)).kept hbl hhw K,r3,K⟩
def Et (p:Pi):Option (Nat×Option Nat)->Pi
 | none=>p
 | some (a,b)=>lO p a b
def okR:Option (Nat×Option Nat)->Prop
 | none=>True
 | some (a,b)=>okB a b
theorem rep_g (hle:k<=src.size):match repP src k with
  | .ok (l,r)=>okR r/\k<=l/\l<=src.size/\∀ g,RepN src k l g (fun p=>Et p r)
  | .error pl=>∀ g,RepF src k g pl:=by
 unfold repP
 cases h1:saw src k 42
 case true=>
  rw [Ny rfl];have:=aK h1;exact ⟨show (0:Nat)<=20 by omega,by omega,by omega,fun g=>Gc h1⟩
 rw [Nr (by simp)]
 cases h2:saw src k 43
 case true=>
  rw [Ny rfl];have:=aK h2;exact ⟨show (1:Nat)<=20 by omega,by omega,by omega,fun g=>Ge h1 h2⟩
 rw [Nr (by simp)]
 cases h3:saw src k 63
 case true=>
  rw [Ny rfl];have:=aK h3;exact ⟨⟨by omega,by omega⟩,by omega,by omega,fun g=>JZ h1 h2 h3⟩
 rw [Nr (by simp)]
 cases h4:saw src k 123
 case false=>
  rw [Nr (by simp)];exact ⟨trivial,by omega,hle,fun g=>repN_no h1 h2 h3 h4⟩
 rw [Ny rfl];have hb:=bnd_g (src:=src) (k:=k+1)
 cases hn:bndP src (k+1) with
 | error pl=>rw [hn] at hb;exact fun g=>CP h1 h2 h3 h4 (hb g)
 | ok p=>
  obtain ⟨l,a,b⟩:=p;rw [hn] at hb;exact ⟨hb.2.1,by have:=hb.2.2.1;omega,hb.2.2.2,fun g=>CO h1 h2 h3 h4 hb.1 hb.2.1⟩
theorem Pn.Ka (x:Pn) (r:Option (Nat×Option Nat)):(x.times r).pi=Et x.pi r:=by
 cases r with
 | none=>rfl
 | some p=>rfl
end
def iZ (p:Pi):Prop:=p.sz<=300->p.len<=2 * p.sz
theorem xh {l:List Pi} (h:∀ p∈l,iZ p):(l.map Pi.sz).sum<=300->(l.map Pi.len).sum<=2 * (l.map Pi.sz).sum:=by
 induction l with
 | nil=>intro _;simp
 | cons p l ih=>
  intro hs;simp only [OX,List.sum_cons] at hs ⊢;have h1:=h p (by simp) (by omega);have h2:=ih (fun q hq=>h q (by simp [hq])) (by omega);omega
theorem Kb (l:List Pi):(gi l).sz=min (l.map Pi.sz).sum 301:=by simp [gi,uN,It.pi,szL,Oi,Function.comp_def,Pi.it]
theorem Gq (l:List Pi):(gi l).len=(l.map Pi.len).sum:=by simp [gi,uN,It.pi,dB,Oi,Function.comp_def,Pi.it]
theorem Gt (l:List Pi):(aW l).sz=min ((l.map Pi.sz).sum+(l.length - 1)) 301:=by simp [aW,dZ,It.pi,szL,Oi,Function.comp_def,Pi.it]
theorem Kc (l:List Pi):(aW l).len=(l.map Pi.len).sum+(l.length - 1):=by simp [aW,dZ,It.pi,dB,Oi,Function.comp_def,Pi.it]
theorem zV {n:Nat}:∀ {l:List It},(∀ i∈l,i.dd<=n)->ddL l<=n
 | [],_=>by simp [ddL]
 | i::l,h=>by
  have h1:=h i (by simp);have h2:=zV (l:=l) (fun j hj=>h j (by simp [hj]));simp only [ddL];omega
theorem Bi {l:List Pi} {n:Nat} (h:∀ p∈l,p.dd<=n):(gi l).dd<=n:=zV (fun i hi=>by
 obtain ⟨p,hp,rfl⟩:=List.mem_map.1 hi
 exact h p hp)
theorem piBr_dd {l:List Pi} {n:Nat} (h:∀ p∈l,p.dd<=n):(aW l).dd<=n:=zV (fun i hi=>by
 obtain ⟨p,hp,rfl⟩:=List.mem_map.1 hi
 exact h p hp)
theorem oo {l:List Pi} (h:∀ p∈l,iZ p):iZ (gi l):=by
 intro hs;rw [Kb] at hs ⊢;rw [Gq];have:=xh h (by omega);omega
theorem Dq {l:List Pi} (h:∀ p∈l,iZ p):iZ (aW l):=by
 intro hs;rw [Gt] at hs ⊢;rw [Kc];have:=xh h (by omega);omega
theorem yZ {g:Nat} {p:Pi} (h:iZ p):iZ (iO g p):=by
 intro hs;have e1:(iO g p).sz=min (p.sz+2) 301:=rfl;have e2:(iO g p).len=p.len+2:=rfl;rw [e1] at hs ⊢;rw [e2];have:=h (by omega);omega
theorem Hl {p:Pi} {a:Nat} {b:Option Nat} (h:iZ p) (hok:okB a b) (h301:p.sz<=301):iZ (lO p a b):=by
 intro hs
 cases b with
 | none=>
  have e1:(lO p a none).sz=min ((a+1) * p.sz+1) 301:=rfl;have e2:(lO p a none).len=p.len+2+a * p.len:=rfl;rw [e1] at hs ⊢;rw [e2];have h3:p.sz<=(a+1) * p.sz:=Nat.le_mul_of_pos_left _ (by omega);have h4:=h (by omega);have h5:a * p.len<=a * (2 * p.sz):=OO _ h4;have h6:(a+1) * p.sz=a * p.sz+p.sz:=by rw [NZ,N7]
  have h7:a * (2 * p.sz)=2 * (a * p.sz):=by rw [Nat.mul_left_comm]
  omega
 | some m=>
  have e1:(lO p a (some m)).sz=min (m * p.sz+(m - a)) 301:=rfl;have e2:(lO p a (some m)).len=(m - a) * (p.len+1)+a * p.len:=rfl;rw [e1] at hs ⊢;rw [e2];obtain ⟨ham,_⟩:=hok;have e3:(m - a) * (p.len+1)+a * p.len=m * p.len+(m - a):=by
   obtain ⟨d,rfl⟩:=Nat.exists_eq_add_of_le ham;rw [Pb,Nat.mul_add,NZ];omega
  rw [e3];by_cases hm:m=0
  .subst hm;omega
  .have h3:p.sz<=m * p.sz:=Nat.le_mul_of_pos_left _ (by omega);have h4:=h (by omega);have h5:m * p.len<=m * (2 * p.sz):=OO _ h4;have h7:m * (2 * p.sz)=2 * (m * p.sz):=by rw [Nat.mul_left_comm]
   omega
section
variable {w:World} {b k g pl:Nat} {src:ByteArray}
theorem I9 (h40:saw src k 40=false) (h46:saw src k 46=true):AB src k (k+1) g g (Gs fun x=>!dt x):=by
 intro w b hb0 hr hw;have hwd:∀ i,(0:Int)=(wd dt i:Int):=fun i=>by rw [nk];rfl
 have C:=hid (qh dt);go_enter Tryz.func183,Tryz.ntmps183
 go_wp2_with fail;refine (ep 40 hr h40).mono ?_;rintro e w1 ⟨rfl,r1,k1⟩;go_wp2_with fail;refine (aI 46 r1 h46).mono ?_;rintro e w2 ⟨rfl,r2,k2⟩;go_wp2_with fail;have C2:=C.out;unfold yA at C2;simp only [nk] at C2;refine (C2 _).mono ?_;rintro e w3 ⟨rfl,k3⟩;go_wp2_with fail;go_ret;exact ⟨GU (fun x=>!dt x),rfl,rfl,Ha _ _ _ _,r2.aj k3 (by simp),k1.trans (k2.trans (k3.mono (by simp)))⟩
theorem Ag {l:Nat} {m:Nat->Bool} (h40:saw src k 40=false) (h46:saw src k 46=false) (h91:saw src k 91=true) (h:∀ b,b≠4->Az b src (k+1) l g m):AB src k l g g (Gs m):=by
 intro w b hb0 hr hw;refine (D0 hr hw hb0 h40 h46 h91 (h b hb0)).mono ?_;rintro e w1 ⟨rfl,r1,k1⟩;exact ⟨GU m,rfl,rfl,Ha _ _ _ _,r1,k1⟩
end
section
variable (src:ByteArray)
def Js (n k g:Nat):Prop:=match atomP src n k g with
 | .ok (l,g',x)=>AB src k l g g' x.pi/\k < l/\l<=src.size/\g<=g'/\g'<=9/\iZ x.pi/\x.pi.sz<=301/\x.pi.dd+g<=g'
 | .error pl=>eW 183 src k g pl
def yh (n k g:Nat):Prop:=match pieceP src n k g with
 | .ok (l,g',x)=>qT src k l g g' x.pi/\k < l/\l<=src.size/\g<=g'/\g'<=9/\iZ x.pi/\x.pi.sz<=301/\x.pi.dd+g<=g'+1
 | .error pl=>eW 171 src k g pl
def Mo (n k g:Nat):Prop:=match rowP src n k g with
 | .ok (l,g',xs)=>RowN src l g' k g (piL xs)/\k<=l/\l<=src.size/\g<=g'/\g'<=9/\xs.length+k<=l/\∀ p∈piL xs,iZ p/\p.dd+g<=g'+1
 | .error pl=>∃ ps,RowF src pl k g ps/\ps.length+k<=src.size
def Av (n k g:Nat):Prop:=match te src n k g with
 | .ok (l,g',ys)=>BrsN src l g' k g (piL ys)/\k<=l/\l<=src.size/\g<=g'/\g'<=9/\ys.length+k<=l/\∀ p∈piL ys,iZ p/\p.dd+g<=g'+1
 | .error pl=>∃ ps,BrsF src pl k g ps/\ps.length+k<=src.size
def BrsR (n k g:Nat):Prop:=match LZ src n k g with
 | .ok (l,g',x)=>gu src k l g g' x.pi/\k<=l/\l<=src.size/\g<=g'/\g'<=9/\iZ x.pi/\x.pi.sz<=301/\x.pi.dd+g<=g'+1
 | .error pl=>eW 130 src k g pl
end
section
variable {src:ByteArray} {n k g:Nat}
theorem Mh (hB:∀ k g,k<=src.size->g<=9->src.size<=k+100->4 * (src.size - k)+4<=n->BrsR src n k g) (hk:k < src.size) (hg:g<=9) (h100:src.size<=k+100) (hn:4 * (src.size - k)<=n):Js src (n+1) k g:=by
 unfold Js atomP
 cases h40:saw src k 40
 case true=>
  rw [Ny rfl];by_cases h9:g=9
  .rw [Ny h9];subst h9;exact iY h40 zF
  rw [Nr h9];have hb:=hB (k+1) (g+1) (by omega) (by omega) (by omega) (by omega);unfold BrsR at hb
  cases hr:LZ src n (k+1) (g+1) with
  | error pl=>
   rw [hr] at hb;exact iY h40 (Hy (by omega) h40 hb)
  | ok p=>
   obtain ⟨l,g',x⟩:=p;rw [hr] at hb;obtain ⟨b1,b2,b3,b4,b5,b6,b7,b8⟩:=hb;dsimp only
   cases h41:saw src l 41
   .rw [Nr (by simp)];exact iY h40 (zC (by omega) h40 b1 h41)
   .rw [Ny rfl];have hl:=aK h41;refine ⟨Ae (by omega) h40 b1 h41,by omega,by omega,by omega,b5,yZ b6,?_,?_⟩
    .show min (x.pi.sz+2) 301<=301;omega
    .show x.pi.dd+g<=g';omega
 rw [Nr (by simp)]
 cases h46:saw src k 46
 case true=>
  rw [Ny rfl];exact ⟨I9 h40 h46,by omega,by omega,by omega,hg,fun _=>(by show 1<=2 * 1;omega),(by show 1<=301;omega),by show 0+g<=g;omega⟩
 rw [Nr (by simp)]
 cases h91:saw src k 91
 case true=>
  rw [Ny rfl];have hc:=class_g (src:=src) (k:=k+1) (n:=src.size) (by omega) (by omega)
  cases hr:jA src src.size (k+1) with
  | error pl=>
   rw [hr] at hc;exact Ah h40 h46 h91 (hc g)
  | ok p=>
   obtain ⟨l,m⟩:=p;rw [hr] at hc;exact ⟨Ag h40 h46 h91 (fun b hb=>hc.2.2 b g hb),by have:=hc.1;omega,hc.2.1,Nw _,hg,fun _=>(by show 1<=2 * 1;omega),(by show 1<=301;omega),by show 0+g<=g;omega⟩
 rw [Nr (by simp)];have hb:=byt_g (src:=src) (barred:=iM) (behind:=iT) (k:=k) (by omega)
 cases hr:LX src iM iT k with
 | error pl=>
  rw [hr] at hb;exact D4 h40 h46 h91 (hb g)
 | ok p=>
  obtain ⟨l,x⟩:=p;rw [hr] at hb;exact ⟨D3 hb.1 h40 h46 h91 (fun b=>hb.2.2.2 b g),hb.2.1,hb.2.2.1,Nw _,hg,fun _=>(by show 1<=2 * 1;omega),(by show 1<=301;omega),by show 0+g<=g;omega⟩
theorem Gn (hA:Js src n k g) (hk:k < src.size) (hg:g<=9):yh src (n+1) k g:=by
 unfold yh pieceP
 cases h94:saw src k 94
 case true=>
  rw [Ny rfl];exact ⟨uU h94,by omega,by omega,by omega,hg,fun _=>(by show 1<=2 * 1;omega),(by show 1<=301;omega),by show 0+g<=g+1;omega⟩
 rw [Nr (by simp)]
 cases h36:saw src k 36
 case true=>
  rw [Ny rfl];exact ⟨C7 h94 h36,by omega,by omega,by omega,hg,fun _=>(by show 1<=2 * 1;omega),(by show 1<=301;omega),by show 0+g<=g+1;omega⟩
 rw [Nr (by simp)];unfold Js at hA
 cases hr:atomP src n k g with
 | error pl=>
  rw [hr] at hA;exact C5 h94 h36 hA
 | ok p=>
  obtain ⟨l,g',x⟩:=p;rw [hr] at hA;obtain ⟨a1,a2,a3,a4,a5,a6,a7,a8⟩:=hA;dsimp only;have hp:=rep_g (src:=src) (k:=l) a3
  cases hq:repP src l with
  | error pl=>
   rw [hq] at hp;exact Gl h94 h36 a1 (hp g')
  | ok p=>
   obtain ⟨l2,r⟩:=p;rw [hq] at hp;obtain ⟨q1,q2,q3,q4⟩:=hp;dsimp only;rw [Pn.Ka];refine ⟨yM h94 h36 a1 (q4 g'),by omega,q3,a4,a5,?_⟩
   cases r with
   | none=>exact ⟨a6,a7,by show x.pi.dd+g<=g'+1;omega⟩
   | some p=>
    obtain ⟨a,b⟩:=p;refine ⟨Hl a6 q1 a7,?_,?_⟩
    .cases b with
     | none=>show min ((a+1) * x.pi.sz+1) 301<=301;omega
     | some m=>show min (m * x.pi.sz+(m - a)) 301<=301;omega
    .cases b with
     | none=>show x.pi.dd+1+g<=g'+1;omega
     | some m=>
      show (if m=0 then 0 else x.pi.dd)+g<=g'+1;split <;> omega
theorem row_all (hP:∀ k g,k < src.size->g<=9->src.size<=k+100->4 * (src.size - k)+2<=n->yh src n k g) (hR:∀ k g,k<=src.size->g<=9->src.size<=k+100->4 * (src.size - k)+3<=n->Mo src n k g) (hk:k<=src.size) (hg:g<=9) (h100:src.size<=k+100) (hn:4 * (src.size - k)+2<=n):Mo src (n+1) k g:=by
 unfold Mo rowP;by_cases hc:k < src.size/\saw src k 124=false/\saw src k 41=false
 .rw [Ny hc];obtain ⟨c1,c2,c3⟩:=hc;have hp:=hP k g c1 hg h100 hn;unfold yh at hp
  cases hr:pieceP src n k g with
  | error pl=>
   rw [hr] at hp;exact ⟨[],⟨c1,c2,c3,hp⟩,by simp;omega⟩
  | ok p=>
   obtain ⟨l,g',x⟩:=p;rw [hr] at hp;obtain ⟨a1,a2,a3,a4,a5,a6,a7,a8⟩:=hp;dsimp only;have hrw:=hR l g' a3 a5 (by omega) (by omega);unfold Mo at hrw
   cases hq:rowP src n l g' with
   | error pl=>
    rw [hq] at hrw;obtain ⟨ps,r1,r2⟩:=hrw;exact ⟨x.pi::ps,⟨c1,c2,c3,l,g',a2,a1,r1⟩,by simp;omega⟩
   | ok p=>
    obtain ⟨l2,g2,xs⟩:=p;rw [hq] at hrw;obtain ⟨r1,r2,r3,r4,r5,r6,r7⟩:=hrw;refine ⟨⟨c1,c2,c3,l,g',a2,a1,r1⟩,by omega,r3,by omega,r5,by simp;omega,fun p hp=>?_⟩;rcases List.mem_cons.1 (show p∈x.pi::piL xs from hp) with e | e
    .subst e;exact ⟨a6,by omega⟩
    .have:=r7 p e;exact ⟨this.1,by omega⟩
 .rw [Nr hc];refine ⟨⟨rfl,rfl,?_⟩,Nw _,hk,Nw _,hg,by simp,fun p hp=>by cases hp⟩;by_cases h1:k=src.size
  .exact .inl h1
  .have h2:k < src.size:=by omega
   cases h3:saw src k 124
   .cases h4:saw src k 41
    .exact absurd ⟨h2,h3,h4⟩ hc
    .exact .inr (.inr ⟨h2,rfl,rfl⟩)
   .exact .inr (.inl ⟨h2,rfl⟩)
theorem Kv (hR:∀ k g,k<=src.size->g<=9->src.size<=k+100->4 * (src.size - k)+3<=n->Mo src n k g) (hM:∀ k g,k<=src.size->g<=9->src.size<=k+100->4 * (src.size - k)+3<=n->Av src n k g) (hk:k<=src.size) (hg:g<=9) (h100:src.size<=k+100) (hn:4 * (src.size - k)+2<=n):Av src (n+1) k g:=by
 unfold Av te
 cases h124:saw src k 124
 .rw [Nr (by simp)];exact ⟨⟨rfl,rfl,h124⟩,Nw _,hk,Nw _,hg,by simp,fun p hp=>by cases hp⟩
 .rw [Ny rfl];have hlt:=aK h124;have hrw:=hR (k+1) g (by omega) hg (by omega) (by omega);unfold Mo at hrw
  cases hr:rowP src n (k+1) g with
  | error pl=>
   rw [hr] at hrw;obtain ⟨ps,r1,r2⟩:=hrw;exact ⟨[],⟨h124,oU r1 (by omega)⟩,by simp;omega⟩
  | ok p=>
   obtain ⟨l,g',xs⟩:=p;rw [hr] at hrw;obtain ⟨r1,r2,r3,r4,r5,r6,r7⟩:=hrw;have hbr:jb src (k+1) l g g' (gi (piL xs)):=oT r1 (by rw [rP];omega);dsimp only;have hm:=hM l g' r3 r5 (by omega) (by omega);unfold Av at hm
   cases hq:te src n l g' with
   | error pl=>
    rw [hq] at hm;obtain ⟨ps,m1,m2⟩:=hm;exact ⟨gi (piL xs)::ps,⟨h124,l,g',by omega,hbr,m1⟩,by simp;omega⟩
   | ok p=>
    obtain ⟨l2,g2,ys⟩:=p;rw [hq] at hm;obtain ⟨m1,m2,m3,m4,m5,m6,m7⟩:=hm;refine ⟨⟨h124,l,g',by omega,hbr,m1⟩,by omega,m3,by omega,m5,by simp;omega,fun p hp=>?_⟩;rcases List.mem_cons.1 (show p∈gi (piL xs)::piL ys from hp) with e | e
    .subst e;refine ⟨oo fun q hq=>(r7 q hq).1,?_⟩;have:=Bi (l:=piL xs) (n:=g'+1 - g) (fun q hq=>by have:=(r7 q hq).2;omega);omega
    .have:=m7 p e;exact ⟨this.1,by omega⟩
theorem brs_all (hR:∀ k g,k<=src.size->g<=9->src.size<=k+100->4 * (src.size - k)+3<=n->Mo src n k g) (hM:∀ k g,k<=src.size->g<=9->src.size<=k+100->4 * (src.size - k)+3<=n->Av src n k g) (hk:k<=src.size) (hg:g<=9) (h100:src.size<=k+100) (hn:4 * (src.size - k)+3<=n):BrsR src (n+1) k g:=by
 unfold BrsR LZ;have hrw:=hR k g hk hg h100 hn;unfold Mo at hrw
 cases hr:rowP src n k g with
 | error pl=>
  rw [hr] at hrw;obtain ⟨ps,r1,r2⟩:=hrw;exact oS (oU r1 (by omega))
 | ok p=>
  obtain ⟨l,g',xs⟩:=p;rw [hr] at hrw;obtain ⟨r1,r2,r3,r4,r5,r6,r7⟩:=hrw;have hbr:jb src k l g g' (gi (piL xs)):=oT r1 (by rw [rP];omega);dsimp only;have hm:=hM l g' r3 r5 (by omega) (by omega);unfold Av at hm
  cases hq:te src n l g' with
  | error pl=>
   rw [hq] at hm;obtain ⟨ps,m1,m2⟩:=hm;exact tS hbr m1 (by omega)
  | ok p=>
   obtain ⟨l2,g2,ys⟩:=p;rw [hq] at hm;obtain ⟨m1,m2,m3,m4,m5,m6,m7⟩:=hm;have hall:∀ p∈gi (piL xs)::piL ys,iZ p/\p.dd<=g2+1 - g:=fun p hp=>by
    rcases List.mem_cons.1 hp with e | e
    .subst e;refine ⟨oo fun q hq=>(r7 q hq).1,?_⟩;have:=Bi (l:=piL xs) (n:=g'+1 - g) (fun q hq=>by have:=(r7 q hq).2;omega);omega
    .have:=m7 p e;exact ⟨this.1,by omega⟩
   refine ⟨tR hbr m1 (by rw [rP];omega),by omega,m3,by omega,m5,Dq fun p hp=>(hall p hp).1,?_,?_⟩
   .show (aW (gi (piL xs)::piL ys)).sz<=301;rw [Gt];omega
   .have:=piBr_dd fun p hp=>(hall p hp).2;show (aW (gi (piL xs)::piL ys)).dd+g<=g2+1;omega
theorem Be (src:ByteArray):∀ n,(∀ k g,k < src.size->g<=9->src.size<=k+100->4 * (src.size - k)+1<=n->Js src n k g) /\
  (∀ k g,k < src.size->g<=9->src.size<=k+100->4 * (src.size - k)+2<=n->yh src n k g) /\
  (∀ k g,k<=src.size->g<=9->src.size<=k+100->4 * (src.size - k)+3<=n->Mo src n k g) /\
  (∀ k g,k<=src.size->g<=9->src.size<=k+100->4 * (src.size - k)+3<=n->Av src n k g) /\
  (∀ k g,k<=src.size->g<=9->src.size<=k+100->4 * (src.size - k)+4<=n->BrsR src n k g)
 | 0=>⟨fun k g _ _ _ h=>by omega,fun k g _ _ _ h=>by omega,fun k g _ _ _ h=>by omega,fun k g _ _ _ h=>by omega,fun k g _ _ _ h=>by omega⟩
 | n+1=>by
  obtain ⟨hA,hP,hR,hM,hB⟩:=Be src n;refine ⟨fun k g h1 h2 h3 h4=>Mh hB h1 h2 h3 (by omega),fun k g h1 h2 h3 h4=>Gn (hA k g h1 h2 h3 (by omega)) h1 h2,fun k g h1 h2 h3 h4=>row_all hP hR h1 h2 h3 (by omega),fun k g h1 h2 h3 h4=>Kv hR hM h1 h2 h3 (by omega),fun k g h1 h2 h3 h4=>brs_all hR hM h1 h2 h3 (by omega)⟩
end
inductive Pn.Ok:Pn->Prop
 | one (m:Nat->Bool):Pn.Ok (.one m)
 | Ee {k:Nat} (h:k=1\/k=2):Pn.Ok (.Ee k)
 | group {g:Nat} {x:Pn} (h1:1<=g) (h2:g<=9) (h:Pn.Ok x):Pn.Ok (.group g x)
 | rep {x:Pn} {a:Nat} {b:Option Nat} (hb:okB a b) (h:Pn.Ok x):Pn.Ok (.rep x a b)
 | row {l:List Pn} (h:∀ x∈l,Pn.Ok x):Pn.Ok (.row l)
 | brs {l:List Pn} (hl:l≠[]) (h:∀ x∈l,Pn.Ok x):Pn.Ok (.brs l)
theorem rep_ok {src:ByteArray} {k l:Nat} {r:Option (Nat×Option Nat)} (hk:k<=src.size) (h:repP src k=.ok (l,r)):okR r:=by
 have:=rep_g (src:=src) (k:=k) hk;rw [h] at this;exact this.1
theorem Pn.Ok.times {x:Pn} (h:x.Ok) {r:Option (Nat×Option Nat)} (hr:okR r):(x.times r).Ok:=by
 cases r with
 | none=>exact h
 | some p=>exact .rep hr h
theorem JY {src:ByteArray} {k:Nat} (h:src.size < k):repP src k=.ok (k,none):=by
 have hs:∀ x,saw src k x=false:=fun x=>by unfold saw;rw [dif_neg (by omega)]
 simp [repP,hs]
theorem Br (src:ByteArray):∀ n,(∀ k g l g' x,g<=9->atomP src n k g=.ok (l,g',x)->x.Ok/\g<=g'/\g'<=9) /\
  (∀ k g l g' x,g<=9->pieceP src n k g=.ok (l,g',x)->x.Ok/\g<=g'/\g'<=9) /\
  (∀ k g l g' xs,g<=9->rowP src n k g=.ok (l,g',xs)->(∀ x∈xs,Pn.Ok x)/\g<=g'/\g'<=9) /\
  (∀ k g l g' xs,g<=9->te src n k g=.ok (l,g',xs)->(∀ x∈xs,Pn.Ok x)/\g<=g'/\g'<=9) /\
  (∀ k g l g' x,g<=9->LZ src n k g=.ok (l,g',x)->x.Ok/\g<=g'/\g'<=9)
 | 0=>⟨fun _ _ _ _ _ _ h=>(by unfold atomP at h;cases h),fun _ _ _ _ _ _ h=>(by unfold pieceP at h;cases h),fun _ _ _ _ _ _ h=>(by unfold rowP at h;cases h),fun _ _ _ _ _ _ h=>(by unfold te at h;cases h),fun _ _ _ _ _ _ h=>(by unfold LZ at h;cases h)⟩
 | n+1=>by
  obtain ⟨hA,hP,hR,hM,hB⟩:=Br src n;refine ⟨fun k g l g' x hg h=>?_,fun k g l g' x hg h=>?_,fun k g l g' xs hg h=>?_,fun k g l g' xs hg h=>?_,fun k g l g' x hg h=>?_⟩
  .unfold atomP at h;split at h
   .split at h
    .cases h
    .split at h
     .cases h
     .rename_i h9 _ l1 g1 x1 hb;split at h
      .injection h with h;injection h with h1 h;injection h with h2 h3;subst h1 h2 h3;obtain ⟨b1,b2,b3⟩:=hB _ _ _ _ _ (by omega) hb;exact ⟨.group (by omega) (by omega) b1,by omega,b3⟩
      .cases h
   .split at h
    .injection h with h;injection h with h1 h;injection h with h2 h3;subst h1 h2 h3;exact ⟨.one _,Nw _,hg⟩
    .split at h
     .split at h
      .cases h
      .injection h with h;injection h with h1 h;injection h with h2 h3;subst h1 h2 h3;exact ⟨.one _,Nw _,hg⟩
     .split at h
      .cases h
      .injection h with h;injection h with h1 h;injection h with h2 h3;subst h1 h2 h3;exact ⟨.one _,Nw _,hg⟩
  .unfold pieceP at h;split at h
   .injection h with h;injection h with h1 h;injection h with h2 h3;subst h1 h2 h3;exact ⟨.Ee (.inl rfl),Nw _,hg⟩
   .split at h
    .injection h with h;injection h with h1 h;injection h with h2 h3;subst h1 h2 h3;exact ⟨.Ee (.inr rfl),Nw _,hg⟩
    .split at h
     .cases h
     .rename_i l1 g1 x1 ha;split at h
      .cases h
      .rename_i l2 r hr;injection h with h;injection h with h1 h;injection h with h2 h3;subst h1 h2 h3;obtain ⟨a1,a2,a3⟩:=hA _ _ _ _ _ hg ha;refine ⟨a1.times ?_,a2,a3⟩;by_cases hl:l1<=src.size
       .exact rep_ok hl hr
       .rw [JY (by omega)] at hr;injection hr with hr;injection hr with _ hr;subst hr
        trivial
  .unfold rowP at h;split at h
   .split at h
    .cases h
    .rename_i l1 g1 x1 ha;split at h
     .cases h
     .rename_i l2 g2 xs2 hr;injection h with h;injection h with h1 h;injection h with h2 h3;subst h1 h2 h3;obtain ⟨a1,a2,a3⟩:=hP _ _ _ _ _ hg ha;obtain ⟨c1,c2,c3⟩:=hR _ _ _ _ _ a3 hr
      exact ⟨fun x hx=>by
       rcases List.mem_cons.1 hx with e | e
       .subst e;exact a1
       .exact c1 x e,by omega,c3⟩
   .injection h with h;injection h with h1 h;injection h with h2 h3;subst h1 h2 h3;exact ⟨fun x hx=>(by cases hx),Nw _,hg⟩
  .unfold te at h;split at h
   .split at h
    .cases h
    .rename_i l1 g1 x1 ha;split at h
     .cases h
     .rename_i l2 g2 xs2 hr;injection h with h;injection h with h1 h;injection h with h2 h3;subst h1 h2 h3;obtain ⟨a1,a2,a3⟩:=hR _ _ _ _ _ hg ha;obtain ⟨c1,c2,c3⟩:=hM _ _ _ _ _ a3 hr
      exact ⟨fun x hx=>by
       rcases List.mem_cons.1 hx with e | e
       .subst e;exact .row a1
       .exact c1 x e,by omega,c3⟩
   .injection h with h;injection h with h1 h;injection h with h2 h3;subst h1 h2 h3;exact ⟨fun x hx=>(by cases hx),Nw _,hg⟩
  .unfold LZ at h;split at h
   .cases h
   .rename_i l1 g1 x1 ha;split at h
    .cases h
    .rename_i l2 g2 xs2 hr;injection h with h;injection h with h1 h;injection h with h2 h3;subst h1 h2 h3;obtain ⟨a1,a2,a3⟩:=hR _ _ _ _ _ hg ha;obtain ⟨c1,c2,c3⟩:=hM _ _ _ _ _ a3 hr
     exact ⟨.brs (by simp) fun x hx=>by
      rcases List.mem_cons.1 hx with e | e
      .subst e;exact .row a1
      .exact c1 x e,by omega,c3⟩
mutual
def Pn.rl (text:ByteArray):Pn->Nat->Rl
 | .one m=>mOne text m
 | .Ee k=>fun _=>Kx text k
 | .group g x=>fun d=>Bx g (x.rl text d)
 | .rep x a b=>mRep (x.rl text) a b
 | .row l=>Dk (rlL text l)
 | .brs l=>MP (rlL text l)
def rlL (text:ByteArray):List Pn->List (Nat->Rl)
 | []=>[]
 | x::l=>x.rl text::rlL text l
end
theorem Ef (text:ByteArray):∀ l:List Pn,(l.map fun x=>((x.pi,x.rl text):Mn)).map (·.1)=piL l/\(l.map fun x=>((x.pi,x.rl text):Mn)).map (·.2)=rlL text l
 | []=>⟨rfl,rfl⟩
 | x::l=>by
  have:=Ef text l;exact ⟨by simp [piL,this.1],by simp [rlL,this.2]⟩
theorem Pn.Ok.sm (text:ByteArray) {x:Pn} (h:x.Ok):SmP text x.pi (x.rl text):=by
 induction h with
 | one m=>exact smP_one m
 | Ee h=>exact JT _ h
 | group h1 h2 _ ih=>exact Ff ih h1 h2
 | rep hb _ ih=>exact smP_rep ih _ _ (fun m e=>by subst e;exact hb.1)
 | @row l _ ih=>
  have z:=Ef text l
  have:=smP_row (text:=text) (l.map fun x=>((x.pi,x.rl text):Mn)) (fun p hp=>by
   obtain ⟨x,hx,rfl⟩:=List.mem_map.1 hp
   exact ih x hx)
  rw [z.1,z.2] at this;exact this
 | @brs l hl _ ih=>
  have z:=Ef text l
  have:=uH (text:=text) (l.map fun x=>((x.pi,x.rl text):Mn)) (by simpa using hl) (fun p hp=>by
   obtain ⟨x,hx,rfl⟩:=List.mem_map.1 hp
   exact ih x hx)
  rw [z.1,z.2] at this;exact this
structure pK (G:Nat) (x:Pn):Prop where
 ok:x.Ok
 g:G<=9
 sz:x.pi.sz<=300
 len:1+x.pi.len<=601
 dd:(1+x.pi.len) * (x.pi.dd+1)<=9000
def oV (src:ByteArray) (fr E pl:Nat):Prop:=∀ w:World,Nm w->Calls Tryz.prog 46 #[.string src,.int .i64 (fr:Int)] w fun e w'=>e=Flt E pl/\Kp [] w w'
section
variable {src:ByteArray} {fr:Nat}
theorem nY (h:100+fr < src.size) (hsz:src.size < 4611686018427387904):oV src fr 1 fr:=by
 intro w _;have hlen:IntKind.i64.wrap ((src.size:Int) - (fr:Int))=((src.size - fr:Nat):Int):=by rw [IntKind.wrap_i64];omega
 have hlen2:(100:Int) < ((src.size - fr:Nat):Int):=by omega
 clear h;go_enter Tryz.func46,Tryz.ntmps46
 go_wp2_with fail;exact ⟨rfl,rfl,Kp.refl _ _⟩
theorem nX {pl:Nat} (hs:src.size<=2000) (hf:fr<=src.size) (h1:src.size<=100+fr) (h:eW 87 src fr 0 pl):oV src fr 2 pl:=by
 intro w hw;have hb0:w.heap.size≠4:=by have:=hw.lt;omega
 obtain ⟨o,ho⟩:∃ o:Obj,o=.cells #[.string src,.int .i64 (fr:Int),.int .i64 2,.int .i64 0] 137:=⟨_,rfl⟩;have k0:=Kp.alloc [] w o;have r0:Rd (w.alloc o) w.heap.size src fr 0:=by
  rw [ho];exact ⟨by simp,hf,hs,by simp,by simp,by simp,by simp,fun i=>by simp⟩
 have hlen:IntKind.i64.wrap ((src.size:Int) - (fr:Int))=((src.size - fr:Nat):Int):=by rw [IntKind.wrap_i64];omega
 have hlen2:¬ (100:Int) < ((src.size - fr:Nat):Int):=by omega
 go_enter Tryz.func46,Tryz.ntmps46
 go_wp2_with fail;rw [<-ho];refine (h _ _ hb0 r0 (hw.aj k0 (by simp))).mono ?_;rintro e w1 ⟨rfl,k1⟩;go_wp2_with fail;exact ⟨rfl,rfl,(Kp.own (x:=w.heap.size) ((k0.mono (by simp)).trans k1) (Nw _))⟩
theorem CY {G:Nat} {p:Pi} (hs:src.size<=2000) (hf:fr<=src.size) (h1:src.size<=100+fr) (h:Jm src fr G p) (hp:p.sz=301):oV src fr 3 src.size:=by
 intro w hw;have hb0:w.heap.size≠4:=by have:=hw.lt;omega
 obtain ⟨o,ho⟩:∃ o:Obj,o=.cells #[.string src,.int .i64 (fr:Int),.int .i64 2,.int .i64 0] 137:=⟨_,rfl⟩;have k0:=Kp.alloc [] w o;have r0:Rd (w.alloc o) w.heap.size src fr 0:=by
  rw [ho];exact ⟨by simp,hf,hs,by simp,by simp,by simp,by simp,fun i=>by simp⟩
 have hlen:IntKind.i64.wrap ((src.size:Int) - (fr:Int))=((src.size - fr:Nat):Int):=by rw [IntKind.wrap_i64];omega
 have hlen2:¬ (100:Int) < ((src.size - fr:Nat):Int):=by omega
 go_enter Tryz.func46,Tryz.ntmps46
 go_wp2_with fail;rw [<-ho];refine (h _ _ hb0 r0 (hw.aj k0 (by simp))).mono ?_;rintro e w1 ⟨i,rfl,htv,⟨e1,e2,e3,e4⟩,⟨lo,hi,hhi,nd⟩,r1,k1⟩;obtain ⟨fs,m1,_,cs⟩:=nd.sized;have q1:=m1 w1;rw [htv] at q1;have hfs:fs=224:=GV (q1.symm.trans (dE i.xv w1));subst hfs;have CS:=hid (cs w1 (Same.refl lo hhi));rw [e1,hp] at CS;clear cs m1 q1 nd h hp e1 e2 e3 e4;unfold It.v;rw [htv];have hm:=dE;obtain ⟨xv,hxv⟩:∃ xv,i.xv=xv:=⟨_,rfl⟩;rw [hxv] at CS ⊢;go_wp2_with fail;refine CS.out.mono ?_;rintro e w2 ⟨rfl,k2⟩;clear hm;go_wp2_with fail;exact ⟨rfl,rfl,(Kp.own (x:=w.heap.size) ((k0.mono (by simp)).trans (k1.trans (k2.mono (by simp)))) (Nw _))⟩
theorem yK (hs:src.size<=2000) (hf:fr<=src.size):match iD src fr with
  | .ok (G,x)=>pK G x/\src.size<=100+fr/\Reads src fr G (1+x.pi.len) ((x.pi.em 1 0 0).2:Nat) x.pi.dd (aX (codeOf x.pi))
  | .error (E,pl)=>oV src fr E pl/\1<=E/\E<=3:=by
 unfold iD;by_cases h1:100+fr < src.size
 .rw [Ny h1];exact ⟨nY h1 (by omega),by omega,by omega⟩
 rw [Nr h1];have hb:=(Be src (4 * (src.size - fr)+4)).2.2.2.2 fr 0 hf (by omega) (by omega) (by omega);unfold BrsR at hb
 cases hr:LZ src (4 * (src.size - fr)+4) fr 0 with
 | error pl=>
  rw [hr] at hb;exact ⟨nX hs hf (by omega) (Cy hb),by omega,by omega⟩
 | ok p=>
  obtain ⟨l,g,x⟩:=p;rw [hr] at hb;obtain ⟨b1,b2,b3,b4,b5,b6,b7,b8⟩:=hb;dsimp only;by_cases hl:l < src.size
  .rw [Ny hl];exact ⟨nX hs hf (by omega) (Cx b1 hl),by omega,by omega⟩
  .rw [Nr hl];have e:l=src.size:=by omega
   subst e;by_cases hz:300 < x.pi.sz
   .rw [Ny hz];exact ⟨CY hs hf (by omega) (uP b1) (by omega),by omega,by omega⟩
   .rw [Nr hz];have hlen:=b6 (by omega);have hok:=(Br src _).2.2.2.2 _ _ _ _ _ (by omega) hr;have hd:x.pi.dd<=10:=by omega
    refine ⟨⟨hok.1,b5,by omega,by omega,?_⟩,by omega,CU (uP b1) (by omega) (by omega)⟩
    calc (1+x.pi.len) * (x.pi.dd+1)<=601 * 11:=Ou (by omega) (by omega)
     _<=9000:=by omega
end
