import Derived.Test.YtnfglkdkmcocnaaGreatDoorR49
set_option maxRecDepth 100000
set_option maxHeartbeats 16000000
set_option linter.all false
namespace Go.Proofs.YtnfglkdkmcocnaaGreatDoor
open Go.RowKit
section
variable {src text:ByteArray}
theorem long_any (ht:text.size≤1000):LongR src text:=by
 intro B b q k G i v N x w1 hP hR hi hN hok h300 hG hall hgk hg0
 have hkl:∀ p∈N,p.1.kids.length≤1000:=fun p hp=>by
  obtain ⟨j,hj⟩:=List.getElem?_of_mem hp
  obtain ⟨y,_,_,h⟩:=hall j (List.getElem?_eq_some_iff.1 hj).1
  exact (h p hj).1
 refine (code_any hP hN hkl hR hi hok h300).mono ?_
 rintro e w2 ⟨gb,c,ss,rfl,ho,hS,k2⟩
 refine ⟨_,rfl,k2,fun w3 k3=>?_⟩
 have hfm:=hok.fm_le
 have hlen:ss.length=x.fm.1+1:=by rw [hS.len,codeD_len hok]
 have hdw:∀ i∈codeD x,i.dp < 601:=fun i hi=>by
  rcases List.mem_append.1 (show i∈x.fm.2 0 0++[noIn 6 0 0 0 0] from hi) with q | q
  ·have:=hok.dwm 0 0 i q;omega
  ·rw [List.mem_singleton.1 q];show 0 < 601;omega
 have hat:∀ a,a < ss.length→(codeD x)[a]? = some (cdL (codeD x) a):=fun a ha=>cdL_at (by rw [codeD_len hok];omega)
 have hk:∀ a,a < ss.length→(cdL (codeD x) a).kind≤7∧(cdL (codeD x) a).nx < ss.length∧(cdL (codeD x) a).ot < ss.length∧(cdL (codeD x) a).dp≤600∧((cdL (codeD x) a).kind=3→2≤(cdL (codeD x) a).sl∧(cdL (codeD x) a).sl < 20):=fun a ha=>by
  have hm:=List.mem_of_getElem? (hat a ha)
  obtain ⟨b1,b2,b3,b4,_⟩:=codeD_ok hok hdw a (by omega)
  refine ⟨b1,by omega,by omega,by omega,fun e=>?_⟩
  rcases List.mem_append.1 (show cdL (codeD x) a∈x.fm.2 0 0++[noIn 6 0 0 0 0] from hm) with q | q
  ·exact ((hok.wfm 0 0).2 _ q).2.2.2.2 e
  ·rw [List.mem_singleton.1 q] at e;cases e
 refine (searchR_any (cd:=cdL (codeD x)) (G:=G) (text:=text) (own_kp ho k3 (by simp)) (fun j s hs=>hS.at_ j s _ hs (hat j (List.getElem?_eq_some_iff.1 hs).1)) hk rfl (by omega) (by omega) ht hG).mono ?_
 rintro e w4 ⟨R,r,hR0,hdR,hSr,hO⟩
 have hr:=srD_fnd hok hgk hg0 (fun i hi=>by
  obtain ⟨j,hj⟩:=List.getElem?_of_mem hi
  have hjl:j < ss.length:=by have:=(List.getElem?_eq_some_iff.1 hj).1;rw [codeD_len hok] at this;omega
  have:=hat j hjl
  rw [hj] at this
  have h2:=hdR j hjl
  rw [←Option.some.inj this] at h2;exact h2) hR0 hSr
 unfold FndO
 cases hf:fnd text x with
 | none=>
  rw [hf] at hr
  have hr:r=none:=hr
  subst hr
  exact ⟨_,hO.1,rfl,hO.2⟩
 | some p=>
  obtain ⟨a,z⟩:=p
  rw [hf] at hr
  have hr:r=some (zOf a z):=hr
  subst hr
  obtain ⟨qq,cc,rfl,o1,k4⟩:=hO
  obtain ⟨z0,z1,z2⟩:=fnd_z hgk hg0 hf
  rw [←outC_bs z0 z1 z2] at o1
  exact ⟨_,rfl,qq,cc,rfl,o1,k4⟩
theorem matchR_all (hs:src.size < 4611686018427387904) (ht:text.size < 4611686018427387904) (w:World):Calls Tryz.prog 20 #[.string src,.string text] w (MatR text w (matE src text)):=matchR_any hs ht (fun _ h=>long_any h) w
end
