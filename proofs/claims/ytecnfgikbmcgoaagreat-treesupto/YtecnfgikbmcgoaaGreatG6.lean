import Derived.Test.YtecnfgikbmcgoaaGreatG4
import Derived.Test.YtecnfgikbmcgoaaGreatG5
import Derived.Deep.QuietTactic
import Derived.Test.YtecnfgikbmcgoaaGreatG2
import Derived.Test.YtecnfgikbmcgoaaGreatG0
namespace Go.Proofs.YtecnfgikbmcgoaaGreat
open Go.RowKit
theorem gr_set {a b:World} {B j:Nat} (h:Gr a b) (hB:a.heap.size≤B) (u:Value):Gr a (b.setCell ⟨B,j,none⟩ u):=Below.setCell h (p:=⟨B,j,none⟩) hB u
def pat (p:List Nat) (i:Nat):Nat:=p.getD i 0
def tStep (n:Nat) (p:List Nat) (e:Ky):Option (List Nat) :=
 if 0≤e.1∧0≤e.2∧e.1<n∧e.2<n∧pat p e.1.toNat≠pat p e.2.toNat then some (p.map fun x=>if x=pat p e.2.toNat then pat p e.1.toNat else x) else none
def tRun (n:Nat):List Nat→List Ky→Option (List Nat)
 | p,[]=>some p
 | p,e::es=>(tStep n p e).bind fun q=>tRun n q es
def treeB (n:Int) (es:List Ky):Bool:=decide (1≤n)&&decide (n≤8)&&decide ((es.length:Int)=n - 1)&&(tRun n.toNat (List.range n.toNat) es).isSome
def eat (es:List Ky) (i:Nat):Ky:=es.getD i (0,0)
def EdAt (w:World) (ad:Option Addr) (es:List Ky):Prop:=es=[] ∨ ∃ b off,ad=some ⟨b,off,none⟩∧b<w.heap.size ∧ ∀ i,i<es.length→w.cell? ⟨b,off+i*2,none⟩=some (.int .i64 (eat es i).1)∧w.cell? ⟨b,off+i*2+1,none⟩=some (.int .i64 (eat es i).2)
theorem meas_dec (n j:Nat) (h:j<n):n - (intOf (.int .i64 ((j+1:Nat):Int))).toNat<n - (intOf (.int .i64 (j:Int))).toNat:=by
 simp [intOf];omega
def mix (f:Nat→Nat) (p:List Nat) (z:Nat):List Nat:=(p.map f).take z++p.drop z
theorem mix_len (f:Nat→Nat) (p:List Nat) (z:Nat):(mix f p z).length=p.length:=by simp [mix];omega
theorem mix_at {f:Nat→Nat} {p:List Nat} {z:Nat} (h:z<p.length):pat (mix f p z) z=pat p z:=by
 simp only [pat,mix,List.getD_eq_getElem?_getD]
 rw [List.getElem?_append_right (by simp;omega)]
 simp [Nat.min_eq_left (Nat.le_of_lt h)]
theorem mix_set {f:Nat→Nat} {p:List Nat} {z:Nat} (h:z<p.length):(mix f p z).set z (f (pat p z))=mix f p (z+1):=by
 simp only [mix]
 rw [List.set_append_right _ _ (by simp;omega)]
 have e:z - (List.take z (List.map f p)).length=0:=by simp;omega
 rw [e,List.drop_eq_getElem_cons h,List.set_cons_zero]
 have e2:(p.map f).take (z+1)=(p.map f).take z++[f (pat p z)]:=by
  rw [List.take_add_one];simp [pat,h]
 rw [e2];simp
theorem mix_same {f:Nat→Nat} {p:List Nat} {z:Nat} (h:z<p.length) (hf:f (pat p z)=pat p z):mix f p (z+1)=mix f p z:=by
 rw [← mix_set h,hf]
 apply List.ext_getElem?
 intro i
 rw [List.getElem?_set]
 split
 ·rename_i hi
  subst hi
  have hl:z<(mix f p z).length:=by rw [mix_len];exact h
  have:=mix_at (f:=f) h
  rw [if_pos hl, ← this]
  simp [pat,hl]
 ·rfl
theorem mix_end (f:Nat→Nat) (p:List Nat):mix f p p.length=p.map f:=by unfold mix;rw [List.drop_length,List.append_nil,List.take_of_length_le (by simp)]
theorem ints_set (l:List Nat) (z x:Nat):(ints l).set z (.int .i64 (x:Int))=ints (l.set z x):=by simp [ints,List.map_set]
theorem ints_at {p:List Nat} {i:Nat} (h:i<p.length):(ints p)[i]? = some (.int .i64 (pat p i)):=by
 simp [ints,pat,h]
set_option maxRecDepth 100000 in
set_option maxHeartbeats 1000000 in
theorem isTree_bad (n:Int) (es:List Ky) (ad:Option Addr) (cap:Nat) (w:World) (hn:¬ (1≤n∧n≤8∧(es.length:Int)=n - 1)) :
  Calls Tryz.prog 73 #[.int .i64 n,.slice ad es.length cap] w fun e w'=>e = .returned (.bool (treeB n es))∧Gr w w':=by
 have TB:Hid (treeB n es=false):=by
  show _=_
  simp only [treeB,Bool.and_eq_false_iff,decide_eq_false_iff_not]
  by_cases h1:1≤n
  ·by_cases h2:n≤8
   ·exact Or.inl (Or.inr (fun h3=>hn ⟨h1,h2,h3⟩))
   ·exact Or.inl (Or.inl (Or.inr h2))
  ·exact Or.inl (Or.inl (Or.inl h1))
 have HN:=Hid.mk' hn
 clear hn
 by_cases h1:n<1
 ·go_enter Tryz.func73,Tryz.ntmps73
  go_wp2_with fail
  go_ret
  exact ⟨by rw [TB.out];rfl,Gr.refl _⟩
 ·by_cases h2:8<n
  ·go_enter Tryz.func73,Tryz.ntmps73
   go_wp2_with fail
   go_ret
   exact ⟨by rw [TB.out];rfl,Gr.refl _⟩
  ·have h3:((es.length:Int)==n - 1)=false:=by
    simp only [beq_eq_false_iff_ne]
    exact fun h=>HN.out ⟨by omega,by omega,h⟩
   have hw:wrap64 (n - 1)=n - 1:=by unfold wrap64;omega
   go_enter Tryz.func73,Tryz.ntmps73
   go_wp2_with fail
   go_ret
   exact ⟨by rw [TB.out];rfl,Gr.refl _⟩
set_option maxRecDepth 100000 in
set_option maxHeartbeats 4000000 in
theorem isTree_any (n:Int) (es:List Ky) (ad:Option Addr) (cap:Nat) (w:World) (hl:es.length≤maxLen) (h:EdAt w ad es) (hI:∀ e∈es,I64 e.1∧I64 e.2) :
  Calls Tryz.prog 73 #[.int .i64 n,.slice ad es.length cap] w fun e w'=>e = .returned (.bool (treeB n es))∧Gr w w':=by
 by_cases hn:1≤n∧n≤8∧(es.length:Int)=n - 1
 ·obtain ⟨hn1,hn2,hn3⟩:=hn
  obtain ⟨k,rfl⟩:∃ k:Nat,n=k:=⟨n.toNat,by omega⟩
  obtain ⟨i0,hi,hz0,hz1,hz2⟩:=info_parts Tryz.infoIntQ
  have HE:=Hid.mk' h
  have HI:=Hid.mk' hI
  clear h hI
  have f1:¬ (k:Int)<1:=by omega
  have f2:¬ (8:Int)<(k:Int):=by omega
  have f3:((es.length:Int)==(k:Int) - 1)=true:=by simpa using hn3
  go_enter Tryz.func73,Tryz.ntmps73
  have HN3:=Hid.mk' hn3
  clear hn3
  go_wp2_with (at_make;refine wpList_make_full _ rfl _ _ 27 rfl w.heap.size 3 i0 _ 1 Tryz.underlying27 hi hz0 hz1 _ _ _ _ k rfl rfl (by omega) (by omega) ?b2 ?b3 (Nat.le_refl _) ?_)
  case b2=>omega
  case b3=>unfold maxLen;omega
  intro w1 hown1 hgrow1
  have G1:Hid (Gr w w1):=Below.grown (Gr.refl w) hgrow1 (Nat.le_refl _) (fun b hb=>by cases hb)
  have O1:=Hid.mk' hown1
  clear hown1 hgrow1
  go_wp2_with fail
  go_loopw [29] (fun i wr=>∃ (q:Nat) (xs:List Value),q≤k∧i = .int .i64 q∧Hid (Gr w wr)∧Hid (xs.take q=ints (List.range q))∧Hid (wr.ownsRow w.heap.size 3 1 (.slice (some ⟨w.heap.size,0,none⟩) k k) k xs)) (fun i _=>k - (intOf i).toNat)
  case atStart=>exact ⟨0,_,Nat.zero_le _,rfl,G1,rfl,O1⟩
  case round =>
   obtain ⟨q,xs,hq,rfl,G,HX,O⟩:=hrel
   clear G1 O1
   by_cases hlt:q<k
   ·have hxl:xs.length=k:=by have:=O.out.1;omega
    obtain ⟨r0,rc0⟩:=row_some O.out q (by omega)
    have rf0:=World.ownsRow.frozenAt O.out q
    have O2:=Hid.mk' (World.ownsRow.stored O.out q (.int .i64 q)).1
    have X2:Hid ((xs.set q (.int .i64 q)).take (q+1)=ints (List.range (q+1))):=by
     show _=_
     rw [take_set _ _ _ (by omega),HX.out,List.range_succ,ints_snoc]
    have G2:=Hid.mk' (gr_set (j:=q) G.out (Nat.le_refl _) (.int .i64 q))
    clear O G HX
    go_wp2_with fail
    go_roundw
    case rel=>exact ⟨q+1,_,by omega,by go_num,G2,X2,O2⟩
    case measure=>simp [intOf];omega
   ·have hqk:q=k:=by omega
    subst hqk
    have OP:Hid (wr.ownsRow w.heap.size 3 1 (.slice (some ⟨w.heap.size,0,none⟩) q q) q (ints (List.range q))):=by
     have e:xs=ints (List.range q):=by rw [← HX.out,List.take_of_length_le (by have:=O.out.1;omega)]
     rw [← e];exact O.out
    clear O HX
    go_wp2_with fail
    go_loopw [39] (fun i w2=>∃ (j:Nat) (p:List Nat),j≤es.length∧i = .int .i64 j∧p.length=q∧Hid (∀ x∈p,x<q)∧Hid (Gr w w2)∧Hid (w2.ownsRow w.heap.size 3 1 (.slice (some ⟨w.heap.size,0,none⟩) q q) q (ints p))∧Hid (tRun q (List.range q) es=tRun q p (es.drop j))) (fun i _=>es.length - (intOf i).toNat)
    case atStart=>exact ⟨0,List.range q,Nat.zero_le _,rfl,by simp,fun x hx=>by simpa using hx,G,OP,rfl⟩
    case round =>
     clear G OP
     obtain ⟨j,p,hj,rfl,hpl,HPL,G,O,E⟩:=hrel
     by_cases hlt2:j<es.length
     ·rcases HE.out with h0 | ⟨b,off,rfl,hbw,hat⟩
      ·rw [h0] at hlt2;simp at hlt2
      obtain ⟨d1,d2⟩:=hat j hlt2
      rw [← G.out.cell (p:=⟨b,off+j*2,none⟩) hbw] at d1
      rw [← G.out.cell (p:=⟨b,off+j*2+1,none⟩) hbw] at d2
      have hbw2:b<wr.heap.size:=G.out.lt hbw
      have hcons:es.drop j=eat es j::es.drop (j+1):=by
       rw [List.drop_eq_getElem_cons hlt2];simp [eat,hlt2]
      have E2:=Hid.mk' E.out
      rw [hcons] at E2
      clear E hat
      generalize eat es j=e at *
      obtain ⟨e1,e2⟩:=e
      simp only at d1 d2
      by_cases hin:0≤e1∧0≤e2∧e1<q∧e2<q
      ·obtain ⟨u,rfl⟩:∃ u:Nat,e1=u:=⟨e1.toNat,by omega⟩
       obtain ⟨v,rfl⟩:∃ v:Nat,e2=v:=⟨e2.toNat,by omega⟩
       have hu:u<q:=by omega
       have hv:v<q:=by omega
       have cu:wr.cell? ⟨w.heap.size,u,none⟩=some (.int .i64 (pat p u)):=by rw [World.ownsRow.cellAt O.out u (by omega)];exact ints_at (by omega)
       have cv:wr.cell? ⟨w.heap.size,v,none⟩=some (.int .i64 (pat p v)):=by rw [World.ownsRow.cellAt O.out v (by omega)];exact ints_at (by omega)
       have hws:w.heap.size<wr.heap.size:=World.block_lt_of_cell? _ _ cu
       have ET:tStep q p ((u:Int),(v:Int))=if pat p u≠pat p v then some (p.map fun x=>if x=pat p v then pat p u else x) else none:=by
        simp [tStep,hu,hv]
       have HET:=Hid.mk' ET
       clear ET
       have G3:=Hid.mk' (G.out.alloc (.cells #[.int .i64 u,.int .i64 v] 81))
       have O3:=Hid.mk' (O.out.alloc (.cells #[.int .i64 u,.int .i64 v] 81))
       by_cases hpp:pat p u=pat p v
       ·have TB:Hid (treeB (q:Int) es=false):=by
         show _=_
         have:tRun q (List.range q) es=none:=by rw [E2.out,tRun,HET.out,if_neg (by simpa using hpp)];rfl
         simp [treeB,this]
        have hpp':((pat p u:Int)==(pat p v:Int))=true:=by simp [hpp]
        go_wp2_with fail
        go_quiet (fail)
        go_wp2_with fail
        go_ret
        exact ⟨by rw [TB.out];rfl,G3.out.drewN _⟩
       ·have hpp':((pat p u:Int)==(pat p v:Int))=false:=by simp;omega
        have E3:Hid (tRun q (List.range q) es=tRun q (p.map fun x=>if x=pat p v then pat p u else x) (es.drop (j+1))):=by
         show _=_
         rw [E2.out,tRun,HET.out,if_pos hpp];rfl
        clear E2 HET
        go_wp2_with fail
        go_quiet (fail)
        have G4:=Hid.mk' (G3.out.drewN nq)
        have O4:=Hid.mk' (ownsGr O3.out ((Gr.refl (wr.alloc (.cells #[.int .i64 u,.int .i64 v] 81))).drewN nq))
        clear G O G3 O3 cu cv d1 d2
        go_wp2_with fail
        go_loopw [73] (fun i w4=>∃ z:Nat,z≤q∧i = .int .i64 z∧Hid (Gr w w4)∧Hid (w4.ownsRow w.heap.size 3 1 (.slice (some ⟨w.heap.size,0,none⟩) q q) q (ints (mix (fun x=>if x=pat p v then pat p u else x) p z)))) (fun i _=>q - (intOf i).toNat)
        case atStart=>exact ⟨0,Nat.zero_le _,rfl,G4,O4⟩
        case round =>
         rename_i w0 _ _ _ _ _ _ _ _ _ _ _ _ _
         obtain ⟨z,hz,rfl,G5,O5⟩:=hrel
         clear G4 O4
         by_cases hzq:z<q
         ·have cz:wr.cell? ⟨w.heap.size,z,none⟩=some (.int .i64 (pat p z)):=by
           rw [World.ownsRow.cellAt O5.out z (by omega),ints_at (by rw [mix_len];omega),mix_at (by omega)]
          have fz:=World.ownsRow.frozenAt O5.out z
          by_cases hzv:pat p z=pat p v
          ·have hzv':((pat p z:Int)==(pat p v:Int))=true:=by simp [hzv]
           have O6:Hid ((wr.setCell ⟨w.heap.size,z,none⟩ (.int .i64 (pat p u))).ownsRow w.heap.size 3 1 (.slice (some ⟨w.heap.size,0,none⟩) q q) q (ints (mix (fun x=>if x=pat p v then pat p u else x) p (z+1)))):=by
            have h7:=(World.ownsRow.stored O5.out z (.int .i64 (pat p u))).1
            have e7:mix (fun x=>if x=pat p v then pat p u else x) p (z+1)=(mix (fun x=>if x=pat p v then pat p u else x) p z).set z (pat p u):=by rw [← mix_set (by omega)];simp [hzv]
            rw [ints_set] at h7
            show World.ownsRow _ _ _ _ _ _ _
            rw [e7];exact h7
           have G6:=Hid.mk' (gr_set (j:=z) G5.out (Nat.le_refl _) (.int .i64 (pat p u)))
           clear O5 G5
           go_wp2_with fail
           refine ⟨⟨z+1,by omega,by go_num,G6,O6⟩,?_⟩
           simp [intOf];omega
          ·have hzv':((pat p z:Int)==(pat p v:Int))=false:=by simp;omega
           have O6:Hid (wr.ownsRow w.heap.size 3 1 (.slice (some ⟨w.heap.size,0,none⟩) q q) q (ints (mix (fun x=>if x=pat p v then pat p u else x) p (z+1)))):=by
            show World.ownsRow _ _ _ _ _ _ _
            rw [mix_same (by omega) (by simp [hzv])];exact O5.out
           go_wp2_with fail
           refine ⟨⟨z+1,by omega,by go_num,G5,O6⟩,?_⟩
           simp [intOf];omega
         ·have hzq':z=q:=by omega
          subst hzq'
          have O7:=Hid.mk' O5.out
          rw [← hpl,mix_end] at O7
          rw [hpl] at O7
          have HPL2:Hid (∀ x∈p.map (fun x=>if x=pat p v then pat p u else x),x<z):=by
           intro x hx
           obtain ⟨y,hy,rfl⟩:=List.mem_map.1 hx
           split
           ·exact HPL.out _ (by unfold pat;rw [List.getD_eq_getElem?_getD,List.getElem?_eq_getElem (by omega)];exact List.getElem_mem _)
           ·exact HPL.out y hy
          clear O5
          have HL:=Hid.mk' hl
          clear hl
          go_wp2_with fail
          have hwj:wrap64 ((j:Int)+1)=((j+1:Nat):Int):=by
           have:=HL.out
           unfold maxLen at this
           unfold wrap64;omega
          rw [hwj]
          exact ⟨⟨j+1,_,hlt2,rfl,(List.length_map _).trans hpl,HPL2,G5,O7,E3⟩,meas_dec _ _ hlt2⟩
      ·have hno:tStep q p (e1,e2)=none:=by
        unfold tStep
        rw [if_neg (fun h=>hin ⟨h.1,h.2.1,h.2.2.1,h.2.2.2.1⟩)]
       have TB:Hid (treeB (q:Int) es=false):=by
        show _=_
        have:tRun q (List.range q) es=none:=by rw [E2.out,tRun,hno];rfl
        simp [treeB,this]
       clear hno E2
       have G3:=Hid.mk' (G.out.alloc (.cells #[.int .i64 e1,.int .i64 e2] 81))
       by_cases hmin:min e1 e2<0
       ·go_wp2_with fail
        go_ret
        exact ⟨by rw [TB.out];rfl,G3.out⟩
       ·have hmax:(q:Int)≤max e1 e2:=by omega
        go_wp2_with fail
        go_ret
        exact ⟨by rw [TB.out];rfl,G3.out⟩
     ·have hje:j=es.length:=by omega
      subst hje
      have TB:Hid (treeB (q:Int) es=true):=by
       show _=_
       have h1:=E.out
       rw [List.drop_length,tRun] at h1
       have h2:=HN3.out
       simp [treeB,h1,h2];omega
      go_wp2_with fail
      go_ret
      exact ⟨by rw [TB.out];rfl,G.out⟩
 ·exact isTree_bad n es ad cap w hn
end Go.Proofs.YtecnfgikbmcgoaaGreat
namespace Go.Proofs.YtecnfgikbmcgoaaGreat
def prt (n:Nat) (p:List Nat):Nat→Nat:=fun x=>if x<n then pat p x else x
theorem pat_map {p:List Nat} {f:Nat→Nat} {x:Nat} (h:x<p.length):pat (p.map f) x=f (pat p x):=by simp [pat,h]
theorem pat_lt {n:Nat} {p:List Nat} (hl:p.length=n) (hp:∀ x∈p,x<n) {x:Nat} (h:x<n):pat p x<n:=by
 refine hp _ ?_
 unfold pat
 rw [List.getD_eq_getElem?_getD,List.getElem?_eq_getElem (by omega)]
 exact List.getElem_mem _
theorem prt_join {n:Nat} {p:List Nat} (hl:p.length=n) (hp:∀ x∈p,x<n) {u v:Nat} (hu:u<n) (hv:v<n):prt n (p.map fun x=>if x=pat p v then pat p u else x)=joinP (prt n p) u v:=by
 funext x
 simp only [prt,joinP,if_pos hu,if_pos hv]
 by_cases hx:x<n
 ·rw [if_pos hx,if_pos hx,pat_map (by omega)]
 ·have:=pat_lt hl hp hv
  rw [if_neg hx,if_neg hx,if_neg (by omega)]
theorem prt_range (n:Nat):prt n (List.range n)=fun b=>b:=by
 funext x
 simp only [prt]
 split
 ·rename_i h;simp [pat,h]
 ·rfl
def EdgeOf (es:List Ky) (a b:Nat):Prop:=((a:Int),(b:Int))∈es∨((b:Int),(a:Int))∈es
theorem tRun_fo {n:Nat}:∀ (es:List Ky) (p:List Nat) (adj:Nat→Nat→Bool) (nxt:Nat→Nat→Int) (p':List Nat),p.length=n→(∀ x∈p,x<n)→(∀ b,prt n p (prt n p b)=prt n p b)→Fo n (prt n p) adj nxt→tRun n p es=some p' →
  ∃ adj' nxt',Fo n (prt n p') adj' nxt'∧(∀ a b,adj' a b=true↔adj a b=true∨EdgeOf es a b)∧reps n (prt n p')+es.length=reps n (prt n p)∧(∀ b,prt n p' (prt n p' b)=prt n p' b)∧(∀ b,b<n→prt n p' b<n)
 | [],p,adj,nxt,p',hl,hp,hi,hF,h=>by
  injection h with h
  subst h
  exact ⟨adj,nxt,hF,fun a b=>by simp [EdgeOf],by simp,hi,fun b hb=>by simp only [prt,if_pos hb];exact pat_lt hl hp hb⟩
 | e::es,p,adj,nxt,p',hl,hp,hi,hF,h=>by
  rw [tRun] at h
  cases hs:tStep n p e with
  | none=>rw [hs] at h;cases h
  | some q =>
   rw [hs] at h
   have h:tRun n q es=some p':=h
   unfold tStep at hs
   split at hs
   ·rename_i hc
    obtain ⟨h1,h2,h3,h4,h5⟩:=hc
    obtain ⟨e1,e2⟩:=e
    simp only at h1 h2 h3 h4 h5 hs
    obtain ⟨u,rfl⟩:∃ u:Nat,e1=u:=⟨e1.toNat,by omega⟩
    obtain ⟨v,rfl⟩:∃ v:Nat,e2=v:=⟨e2.toNat,by omega⟩
    have hu:u<n:=by omega
    have hv:v<n:=by omega
    simp only [Int.toNat_natCast] at h5 hs
    injection hs with hs
    have hq:=prt_join hl hp hu hv
    rw [hs] at hq
    have hne:prt n p u≠prt n p v:=by simp only [prt,if_pos hu,if_pos hv];exact h5
    have hF':=hF.join hu hv hne
    rw [← hq] at hF'
    have hl':q.length=n:=by rw [← hs];simp [hl]
    have hp':∀ x∈q,x<n:=by
     intro x hx
     rw [← hs] at hx
     obtain ⟨y,hy,rfl⟩:=List.mem_map.1 hx
     split
     ·exact pat_lt hl hp hu
     ·exact hp y hy
    have hi':∀ b,prt n q (prt n q b)=prt n q b:=by rw [hq];exact joinP_rep hi u v
    obtain ⟨adj',nxt',A,B,C,D,E⟩:=tRun_fo es q _ _ p' hl' hp' hi' hF' h
    refine ⟨adj',nxt',A,fun a b=>?_,?_,D,E⟩
    ·rw [B a b,joinA_iff]
     simp only [EdgeOf,List.mem_cons,Prod.mk.injEq]
     constructor
     ·rintro ((h | ⟨rfl,rfl⟩ | ⟨rfl,rfl⟩) | (h | h))
      ·exact Or.inl h
      ·exact Or.inr (Or.inl (Or.inl ⟨rfl,rfl⟩))
      ·exact Or.inr (Or.inr (Or.inl ⟨rfl,rfl⟩))
      ·exact Or.inr (Or.inl (Or.inr h))
      ·exact Or.inr (Or.inr (Or.inr h))
     ·rintro (h | (⟨h1,h2⟩ | h) | (⟨h1,h2⟩ | h))
      ·exact Or.inl (Or.inl h)
      ·exact Or.inl (Or.inr (Or.inl ⟨by omega,by omega⟩))
      ·exact Or.inr (Or.inl h)
      ·exact Or.inl (Or.inr (Or.inr ⟨by omega,by omega⟩))
      ·exact Or.inr (Or.inr h)
    ·have:=reps_join hi (fun b hb=>by simp only [prt,if_pos hb];exact pat_lt hl hp hb) (u:=u) hv hne
     rw [← hq] at this
     simp only [List.length_cons];omega
   ·cases hs
theorem tree_of {n:Int} {es:List Ky} (h:treeB n es=true):∃ (nb:Nat) (adj:Nat→Nat→Bool) (nxt:Nat→Nat→Int),n=nb∧1≤nb∧nb≤8∧es.length+1=nb∧(∀ a b,adj a b=true↔EdgeOf es a b)∧Nx adj (dom nb nxt)∧Nz nb adj (dom nb nxt)∧Rk adj (dom nb nxt) (behind nb (dom nb nxt)):=by
 simp only [treeB,Bool.and_eq_true,decide_eq_true_eq] at h
 obtain ⟨⟨⟨h1,h2⟩,h3⟩,h4⟩:=h
 obtain ⟨nb,rfl⟩:∃ k:Nat,n=k:=⟨n.toNat,by omega⟩
 simp only [Int.toNat_natCast] at h4
 cases hr:tRun nb (List.range nb) es with
 | none=>rw [hr] at h4;cases h4
 | some p' =>
  have hF:Fo nb (prt nb (List.range nb)) (fun _ _=>false) (fun _ _ => -1):=by rw [prt_range];exact Fo.init nb
  obtain ⟨adj,nxt,A,B,C,D,E⟩:=tRun_fo es (List.range nb) _ _ p' (by simp) (fun x hx=>by simpa using hx) (fun b=>by rw [prt_range]) hF hr
  rw [prt_range,reps_init] at C
  have one:=one_part D E (by omega)
  exact ⟨nb,adj,nxt,rfl,by omega,by omega,by omega,fun a b=>by rw [B a b];simp,A.nx one,A.nz one,A.rk one⟩
def inR (nb:Nat) (e:Ky):Bool:=decide (0≤e.1)&&decide (0≤e.2)&&decide (e.1<nb)&&decide (e.2<nb)
def bat (l:List Bool) (i:Nat):Bool:=l.getD i false
def sEdge (S:List Bool) (e:Ky):List Bool:=(S.set e.1.toNat (bat S e.1.toNat||bat S e.2.toNat)).set e.2.toNat (bat S e.1.toNat||bat S e.2.toNat)
def sRound (es:List Ky) (S:List Bool):List Bool:=es.foldl sEdge S
def sAll (es:List Ky) (S:List Bool):Nat→List Bool
 | 0=>S
 | n+1=>sRound es (sAll es S n)
def sInit (nb:Nat):List Bool:=(List.replicate nb false).set 0 true
def refB (n:Int) (es:List Ky):Bool:=decide (1≤n)&&decide (n≤8)&&decide ((es.length:Int)=n - 1)&&es.all (inR n.toNat)&&(sAll es (sInit n.toNat) n.toNat).all id
theorem bat_set {S:List Bool} {i j:Nat} {x:Bool} (hi:i<S.length):bat (S.set i x) j=if i=j then x else bat S j:=by
 unfold bat
 rw [List.getD_eq_getElem?_getD,List.getElem?_set,List.getD_eq_getElem?_getD]
 by_cases e:i=j
 ·subst e;simp [hi]
 ·rw [if_neg e,if_neg e]
theorem sEdge_len (S:List Bool) (e:Ky):(sEdge S e).length=S.length:=by simp [sEdge]
theorem sRound_len:∀ (es:List Ky) (S:List Bool),(sRound es S).length=S.length
 | [],_=>rfl
 | e::es,S=>by
  show (sRound es (sEdge S e)).length=_
  rw [sRound_len es,sEdge_len]
theorem sAll_len (es:List Ky) (S:List Bool):∀ n,(sAll es S n).length=S.length
 | 0=>rfl
 | n+1=>by rw [sAll,sRound_len,sAll_len es S n]
theorem inR_iff {nb:Nat} {e:Ky}:inR nb e=true ↔ ∃ u v:Nat,e=((u:Int),(v:Int))∧u<nb∧v<nb:=by
 obtain ⟨a,b⟩:=e
 simp only [inR,Bool.and_eq_true,decide_eq_true_eq]
 constructor
 ·rintro ⟨⟨⟨h1,h2⟩,h3⟩,h4⟩
  exact ⟨a.toNat,b.toNat,by rw [Int.toNat_of_nonneg h1,Int.toNat_of_nonneg h2],by omega,by omega⟩
 ·rintro ⟨u,v,h,h1,h2⟩
  injection h with ha hb
  subst ha hb
  exact ⟨⟨⟨by omega,by omega⟩,by omega⟩,by omega⟩
theorem sEdge_at {S:List Bool} {u v j:Nat} (hu:u<S.length) (hv:v<S.length):bat (sEdge S ((u:Int),(v:Int))) j=if v=j∨u=j then (bat S u||bat S v) else bat S j:=by
 unfold sEdge
 simp only [Int.toNat_natCast]
 rw [bat_set (by simpa using hv),bat_set hu]
 by_cases h1:v=j
 ·simp [h1]
 ·by_cases h2:u=j <;> simp [h1,h2]
def leB (S S':List Bool):Prop:=∀ i,bat S i=true→bat S' i=true
theorem leB.trans {S S1 S2:List Bool} (h:leB S S1) (k:leB S1 S2):leB S S2:=fun i hi=>k i (h i hi)
theorem sEdge_le {nb:Nat} {S:List Bool} {e:Ky} (hl:S.length=nb) (he:inR nb e=true):leB S (sEdge S e):=by
 obtain ⟨u,v,rfl,hu,hv⟩:=inR_iff.1 he
 intro i hi
 rw [sEdge_at (by omega) (by omega)]
 split
 ·rename_i h
  rcases h with rfl | rfl <;> simp [hi]
 ·exact hi
theorem sRound_le {nb:Nat}:∀ (es:List Ky) (S:List Bool),S.length=nb→(∀ e∈es,inR nb e=true)→leB S (sRound es S)
 | [],_,_,_=>fun _ h=>h
 | e::es,S,hl,he=>(sEdge_le hl (he e List.mem_cons_self)).trans (sRound_le es (sEdge S e) (by rw [sEdge_len,hl]) (fun x hx=>he x (List.mem_cons_of_mem _ hx)))
theorem leB_anti {S S':List Bool} (hl:S.length=S'.length) (h:leB S S') (k:leB S' S):S=S':=by
 apply List.ext_getElem hl
 intro i h1 h2
 have e:∀ (l:List Bool) (hi:i<l.length),bat l i=l[i]:=fun l hi=>by simp [bat,hi]
 have a:=h i
 have b:=k i
 rw [e S h1,e S' h2] at a b
 cases hx:S[i] <;> cases hy:S'[i] <;> simp_all
theorem stable {nb:Nat}:∀ (es:List Ky) (S:List Bool),S.length=nb→(∀ e∈es,inR nb e=true)→sRound es S=S → ∀ e∈es,bat S e.1.toNat=bat S e.2.toNat
 | [],_,_,_,_=>fun e he=>by cases he
 | e::es,S,hl,he,hs=>by
  have h1:=he e List.mem_cons_self
  have h2:∀ x∈es,inR nb x=true:=fun x hx=>he x (List.mem_cons_of_mem _ hx)
  have hs':sRound es (sEdge S e)=S:=hs
  have hlE:(sEdge S e).length=nb:=by rw [sEdge_len,hl]
  have le1:=sEdge_le hl h1
  have le2:=sRound_le es (sEdge S e) hlE h2
  rw [hs'] at le2
  have eS:=leB_anti (by rw [sEdge_len]) le1 le2
  intro x hx
  rcases List.mem_cons.1 hx with rfl | hx
  ·obtain ⟨u,v,rfl,hu,hv⟩:=inR_iff.1 h1
   have a:=sEdge_at (S:=S) (u:=u) (v:=v) (j:=u) (by omega) (by omega)
   have b:=sEdge_at (S:=S) (u:=u) (v:=v) (j:=v) (by omega) (by omega)
   rw [← eS,if_pos (Or.inr rfl)] at a
   rw [← eS,if_pos (Or.inl rfl)] at b
   simp only [Int.toNat_natCast]
   exact a.trans b.symm
  ·rw [← eS] at hs'
   exact stable es S hl h2 hs' x hx
def cnt (S:List Bool):Nat:=(S.filter id).length
theorem cnt_lt:∀ (S S':List Bool),S.length=S'.length→leB S S'→S≠S'→cnt S<cnt S'
 | [],[],_,_,h=>absurd rfl h
 | [],_::_,hl,_,_=>by simp at hl
 | _::_,[],hl,_,_=>by simp at hl
 | a::S,b::S',hl,h,hne=>by
  have ht:leB S S':=fun i hi=>by have:=h (i+1);simp [bat] at this hi ⊢;exact this hi
  have h0:a=true→b=true:=fun e=>by have:=h 0;simp [bat] at this;exact this e
  have hl':S.length=S'.length:=by simpa using hl
  have le:S=S'∨cnt S<cnt S':=by
   by_cases e:S=S'
   ·exact Or.inl e
   ·exact Or.inr (cnt_lt S S' hl' ht e)
  cases a <;> cases b
  ·rcases le with e | e
   ·exact absurd (by rw [e]) hne
   ·simpa [cnt] using e
  ·rcases le with e | e
   ·subst e;simp [cnt]
   ·simp only [cnt,List.filter_cons,id] at e ⊢;simp;omega
  ·exact absurd (h0 rfl) (by simp)
  ·rcases le with e | e
   ·exact absurd (by rw [e]) hne
   ·simp only [cnt,List.filter_cons,id] at e ⊢;simp;omega
theorem cnt_le (S:List Bool):cnt S≤S.length:=List.length_filter_le _ _
theorem sAll_stable {nb:Nat} {es:List Ky} {S:List Bool} (hl:S.length=nb) (he:∀ e∈es,inR nb e=true) (h1:1≤cnt S):∀ n,sRound es (sAll es S n)=sAll es S n∨n+1≤cnt (sAll es S n)
 | 0=>Or.inr h1
 | n+1=>by
  rcases sAll_stable hl he h1 n with h | h
  ·left
   show sRound es (sRound es (sAll es S n))=sRound es (sAll es S n)
   rw [h,h]
  ·by_cases e:sAll es S n=sRound es (sAll es S n)
   ·left
    show sRound es (sRound es (sAll es S n))=sRound es (sAll es S n)
    rw [← e, ← e]
   ·right
    have hln:(sAll es S n).length=nb:=by rw [sAll_len,hl]
    have:=cnt_lt _ _ (by rw [sRound_len]) (sRound_le es _ hln he) e
    show n+1+1≤cnt (sRound es (sAll es S n))
    omega
theorem sInit_len (nb:Nat):(sInit nb).length=nb:=by simp [sInit]
theorem sInit_cnt {nb:Nat} (h:1≤nb):1≤cnt (sInit nb):=by
 obtain ⟨k,rfl⟩:∃ k,nb=k+1:=⟨nb - 1,by omega⟩
 simp [sInit,cnt,List.replicate_succ]
theorem seen_closed {nb:Nat} {es:List Ky} (hn:1≤nb) (he:∀ e∈es,inR nb e=true):∀ e∈es,bat (sAll es (sInit nb) nb) e.1.toNat=bat (sAll es (sInit nb) nb) e.2.toNat:=by
 rcases sAll_stable (sInit_len nb) he (sInit_cnt hn) nb with h | h
 ·exact stable es _ (by rw [sAll_len,sInit_len]) he h
 ·have:=cnt_le (sAll es (sInit nb) nb)
  rw [sAll_len,sInit_len] at this
  omega
theorem seen_zero {nb:Nat} {es:List Ky} (hn:1≤nb) (he:∀ e∈es,inR nb e=true):∀ n,bat (sAll es (sInit nb) n) 0=true
 | 0=>by
  obtain ⟨k,rfl⟩:∃ k,nb=k+1:=⟨nb - 1,by omega⟩
  simp [sAll,sInit,bat,List.replicate_succ]
 | n+1=>sRound_le es _ (by rw [sAll_len,sInit_len]) he 0 (seen_zero hn he n)
def fP (part:Nat→Nat):List Ky→Nat→Nat
 | []=>part
 | e::es=>fP (joinP part e.1.toNat e.2.toNat) es
def good (part:Nat→Nat):List Ky→Prop
 | []=>True
 | e::es=>part e.1.toNat≠part e.2.toNat∧good (joinP part e.1.toNat e.2.toNat) es
theorem joinP_eq {part:Nat→Nat} {u v a b:Nat} (h:part a=part b):joinP part u v a=joinP part u v b:=by unfold joinP;rw [h]
theorem fP_eq:∀ (es:List Ky) (part:Nat→Nat) {a b:Nat},part a=part b→fP part es a=fP part es b
 | [],_,_,_,h=>h
 | _::es,_,_,_,h=>fP_eq es _ (joinP_eq h)
theorem joinP_two (part:Nat→Nat) (u v:Nat):joinP part u v u=joinP part u v v:=by
 by_cases h:part u=part v
 ·rw [joinP_pos h,joinP_pos rfl]
 ·rw [joinP_neg h,joinP_pos rfl]
theorem fP_edge:∀ (es:List Ky) (part:Nat→Nat),∀ e∈es,fP part es e.1.toNat=fP part es e.2.toNat
 | [],_=>fun e he=>by cases he
 | x::es,part=>fun e he=>by
  rcases List.mem_cons.1 he with rfl | he
  ·exact fP_eq es _ (joinP_two part _ _)
  ·exact fP_edge es _ e he
theorem joinP_same {part:Nat→Nat} {u v:Nat} (h:part u=part v):joinP part u v=part:=by
 funext x
 by_cases hx:part x=part v
 ·rw [joinP_pos hx,h,hx]
 ·rw [joinP_neg hx]
theorem joinP_lt {nb:Nat} {part:Nat→Nat} (hl:∀ b,b<nb→part b<nb) {u v:Nat} (hu:u<nb):∀ b,b<nb→joinP part u v b<nb:=fun b hb=>by
 unfold joinP
 split
 ·exact hl u hu
 ·exact hl b hb
theorem reps_fP {nb:Nat}:∀ (es:List Ky) (part:Nat→Nat),(∀ b,part (part b)=part b)→(∀ b,b<nb→part b<nb)→(∀ e∈es,inR nb e=true)→(good part es→reps nb (fP part es)+es.length=reps nb part)∧(¬ good part es→reps nb part+1≤reps nb (fP part es)+es.length)∧reps nb part≤reps nb (fP part es)+es.length
 | [],part,_,_,_=>⟨fun _=>rfl,fun h=>absurd trivial h,Nat.le_refl _⟩
 | e::es,part,hi,hl,he=>by
  obtain ⟨u,v,rfl,hu,hv⟩:=inR_iff.1 (he e List.mem_cons_self)
  have he':∀ x∈es,inR nb x=true:=fun x hx=>he x (List.mem_cons_of_mem _ hx)
  obtain ⟨A,B,D⟩:=reps_fP es (joinP part u v) (joinP_rep hi u v) (joinP_lt hl hu) he'
  simp only [fP,good,Int.toNat_natCast,List.length_cons]
  by_cases hp:part u=part v
  ·have e2:=joinP_same hp
   rw [e2] at A B D ⊢
   exact ⟨fun h=>absurd hp h.1,fun _=>by omega,by omega⟩
  ·have r:=reps_join hi hl (u:=u) hv hp
   refine ⟨fun h=>?_,fun h=>?_,by omega⟩
   ·have:=A h.2;omega
   ·have:=B (fun g=>h ⟨hp,g⟩);omega
theorem fP_resp {nb:Nat} {S:Nat→Bool}:∀ (es:List Ky) (part:Nat→Nat),(∀ b,part (part b)=part b)→(∀ e∈es,inR nb e=true)→(∀ e∈es,S e.1.toNat=S e.2.toNat)→(∀ a b,part a=part b→S a=S b) → ∀ a b,fP part es a=fP part es b→S a=S b
 | [],_,_,_,_,h=>h
 | e::es,part,hi,he,hS,h=>by
  refine fP_resp es _ (joinP_rep hi _ _) (fun x hx=>he x (List.mem_cons_of_mem _ hx)) (fun x hx=>hS x (List.mem_cons_of_mem _ hx)) (fun a b hab=>?_)
  have h0:=hS e List.mem_cons_self
  by_cases ha:part a=part e.2.toNat
  ·have ea:=h _ _ ha
   by_cases hb:part b=part e.2.toNat
   ·rw [ea,h _ _ hb]
   ·rw [joinP_pos ha,joinP_neg hb] at hab
    rw [ea, ← h0,h _ _ hab]
  ·by_cases hb:part b=part e.2.toNat
   ·rw [joinP_neg ha,joinP_pos hb] at hab
    rw [h _ _ hab,h0,h _ _ hb]
   ·rw [joinP_neg ha,joinP_neg hb] at hab
    exact h _ _ hab
theorem reps_one {nb:Nat} {P:Nat→Nat} {c:Nat} (h:∀ b,b<nb→P b=c):reps nb P≤1:=by
 have:∀ n,n≤nb→sm n (fun b=>if P b=b then 1 else 0)≤if c<n then 1 else 0:=by
  intro n
  induction n with
  | zero=>intro _;simp [sm]
  | succ n ih =>
   intro hn
   have:=ih (by omega)
   have hb:=h n (by omega)
   simp only [sm]
   by_cases e:P n=n
   ·have hc:c=n:=by omega
    rw [if_pos e,if_pos (by omega)]
    rw [if_neg (by omega)] at this
    omega
   ·rw [if_neg e]
    by_cases h2:c<n
    ·rw [if_pos (by omega)];rw [if_pos h2] at this;omega
    ·rw [if_neg h2] at this;omega
 have:=this nb (Nat.le_refl _)
 unfold reps
 split at this <;> omega
theorem tRun_iff {n:Nat}:∀ (es:List Ky) (p:List Nat),p.length=n→(∀ x∈p,x<n)→((tRun n p es).isSome=true↔(∀ e∈es,inR n e=true)∧good (prt n p) es)
 | [],p,_,_=>by simp [tRun,good]
 | e::es,p,hl,hp=>by
  rw [tRun]
  by_cases hc:0≤e.1∧0≤e.2∧e.1<n∧e.2<n
  ·obtain ⟨h1,h2,h3,h4⟩:=hc
   have hin:inR n e=true:=by simp [inR,h1,h2,h3,h4]
   obtain ⟨u,v,rfl,hu,hv⟩:=inR_iff.1 hin
   have hq:=prt_join hl hp hu hv
   have e1:prt n p u=pat p u:=if_pos hu
   have e2:prt n p v=pat p v:=if_pos hv
   simp only [good,Int.toNat_natCast,List.mem_cons,forall_eq_or_imp]
   by_cases hne:pat p u=pat p v
   ·have:tStep n p ((u:Int),(v:Int))=none:=by simp [tStep,hne]
    rw [this]
    simp [e1,e2,hne]
   ·have hs:tStep n p ((u:Int),(v:Int))=some (p.map fun x=>if x=pat p v then pat p u else x):=by
     unfold tStep
     rw [if_pos ⟨h1,h2,h3,h4,by simpa using hne⟩]
     simp
    rw [hs]
    show (tRun n (p.map fun x=>if x=pat p v then pat p u else x) es).isSome=true↔_
    rw [tRun_iff es _ (by simp [hl]) (fun x hx=>by
     obtain ⟨y,hy,rfl⟩:=List.mem_map.1 hx
     split
     ·exact pat_lt hl hp hu
     ·exact hp y hy),hq,e1,e2]
    constructor
    ·rintro ⟨a,b⟩;exact ⟨⟨hin,a⟩,hne,b⟩
    ·rintro ⟨⟨_,a⟩,_,b⟩;exact ⟨a,b⟩
  ·have:tStep n p e=none:=by
    unfold tStep
    rw [if_neg (fun h=>hc ⟨h.1,h.2.1,h.2.2.1,h.2.2.2.1⟩)]
   rw [this]
   constructor
   ·intro h;cases h
   ·rintro ⟨a,_⟩
    have:=a e List.mem_cons_self
    obtain ⟨u,v,rfl,hu,hv⟩:=inR_iff.1 this
    exact absurd ⟨by simp,by simp,by simp;omega,by simp;omega⟩ hc
theorem all_bat (S:List Bool):S.all id=true ↔ ∀ i,i<S.length→bat S i=true:=by
 rw [List.all_eq_true]
 constructor
 ·intro h i hi
  have:=h S[i] (List.getElem_mem _)
  simpa [bat,hi] using this
 ·intro h x hx
  obtain ⟨i,hi,rfl⟩:=List.getElem_of_mem hx
  simpa [bat,hi] using h i hi
theorem refB_tree (n:Int) (es:List Ky):refB n es=treeB n es:=by
 unfold refB treeB
 by_cases h:1≤n∧n≤8∧(es.length:Int)=n - 1
 ·obtain ⟨h1,h2,h3⟩:=h
  obtain ⟨nb,rfl⟩:∃ k:Nat,n=k:=⟨n.toNat,by omega⟩
  simp only [h1,h2,h3,Int.toNat_natCast,decide_true,Bool.and_self,Bool.true_and]
  rw [Bool.eq_iff_iff,tRun_iff es (List.range nb) (by simp) (fun x hx=>by simpa using hx),prt_range,Bool.and_eq_true,List.all_eq_true]
  have hn:1≤nb:=by omega
  refine and_congr_right fun he=>?_
  obtain ⟨A,B,_⟩:=reps_fP (nb:=nb) es (fun b=>b) (fun _=>rfl) (fun _ h=>h) he
  rw [reps_init] at A B
  rw [all_bat,sAll_len,sInit_len]
  constructor
  ·intro hall
   refine Classical.byContradiction fun hg=>?_
   have hB:=B hg
   have inv:∀ k,∀ i,i<nb→bat (sAll es (sInit nb) k) i=true→fP (fun b=>b) es i=fP (fun b=>b) es 0:=by
    have step:∀ (l:List Ky) (S:List Bool),S.length=nb→(∀ e∈l,e∈es)→(∀ i,i<nb→bat S i=true→fP (fun b=>b) es i=fP (fun b=>b) es 0) → ∀ i,i<nb→bat (sRound l S) i=true→fP (fun b=>b) es i=fP (fun b=>b) es 0:=by
     intro l
     induction l with
     | nil=>intro S _ _ h;exact h
     | cons e l ih =>
      intro S hl hm h
      refine ih (sEdge S e) (by rw [sEdge_len,hl]) (fun x hx=>hm x (List.mem_cons_of_mem _ hx)) ?_
      intro i hi hb
      have hme:=hm e List.mem_cons_self
      have hed:=fP_edge es (fun b=>b) e hme
      obtain ⟨u,v,rfl,hu,hv⟩:=inR_iff.1 (he e hme)
      simp only [Int.toNat_natCast] at hed
      rw [sEdge_at (by omega) (by omega)] at hb
      split at hb
      ·rename_i hc
       have huv:fP (fun b=>b) es u=fP (fun b=>b) es 0:=by
        rcases Bool.or_eq_true_iff.1 hb with hb | hb
        ·exact h u hu hb
        ·rw [hed];exact h v hv hb
       rcases hc with rfl | rfl
       ·rw [← hed];exact huv
       ·exact huv
      ·exact h i hi hb
    intro k
    induction k with
    | zero =>
     intro i hi hb
     obtain ⟨m,rfl⟩:∃ m,nb=m+1:=⟨nb - 1,by omega⟩
     cases i with
     | zero=>rfl
     | succ i=>simp [sAll,sInit,bat,List.replicate_succ,List.getElem?_replicate] at hb;split at hb <;> simp_all
    | succ k ih=>exact step es _ (by rw [sAll_len,sInit_len]) (fun _ h=>h) ih
   have:=reps_one (fun b hb=>inv nb b hb (hall b hb))
   omega
  ·intro hg i hi
   have hA:=A hg
   have hi0:∀ b,fP (fun b=>b) es (fP (fun b=>b) es b)=fP (fun b=>b) es b∧(b<nb→fP (fun b=>b) es b<nb):=by
    have:∀ (l:List Ky) (part:Nat→Nat),(∀ e∈l,inR nb e=true)→(∀ b,part (part b)=part b)→(∀ b,b<nb→part b<nb) → ∀ b,fP part l (fP part l b)=fP part l b∧(b<nb→fP part l b<nb):=by
     intro l
     induction l with
     | nil=>intro part _ h1 h2 b;exact ⟨h1 b,h2 b⟩
     | cons e l ih =>
      intro part hin h1 h2
      obtain ⟨u,v,rfl,hu,hv⟩:=inR_iff.1 (hin e List.mem_cons_self)
      exact ih _ (fun x hx=>hin x (List.mem_cons_of_mem _ hx)) (joinP_rep h1 _ _) (joinP_lt h2 (by simpa using hu))
    exact this es _ he (fun _=>rfl) (fun _ h=>h)
   have one:=one_part (fun b=>(hi0 b).1) (fun b=>(hi0 b).2) (by omega) i 0 hi (by omega)
   have:=fP_resp (nb:=nb) (S:=bat (sAll es (sInit nb) nb)) es (fun b=>b) (fun _=>rfl) he (seen_closed hn he) (fun a b h=>by rw [h]) i 0 one
   rw [this]
   exact seen_zero hn he nb
 ·have:(decide (1≤n)&&decide (n≤8)&&decide ((es.length:Int)=n - 1))=false:=by
   simp only [Bool.and_eq_false_iff,decide_eq_false_iff_not]
   by_cases h1:1≤n
   ·by_cases h2:n≤8
    ·exact Or.inr fun h3=>h ⟨h1,h2,h3⟩
    ·exact Or.inl (Or.inr h2)
   ·exact Or.inl (Or.inl h1)
  rw [this];rfl
end Go.Proofs.YtecnfgikbmcgoaaGreat
namespace Go.Proofs.YtecnfgikbmcgoaaGreat
open Go.RowKit
set_option maxHeartbeats 1000000 in
theorem letsBy_any (a:ByteArray) (y k n:Int) (s:ByteArray) (k' n':Int) (s':ByteArray) (m:Int) (w:World) (hw:wayOk y k n s=true) (hv:valOk k' n' s'=true) (hM:Ml m w) :
  Calls Tryz.prog 140 #[.agg #[.string a,.int .i64 y,.int .i64 k,.int .i64 n,.string s],.agg #[.int .i64 k',.int .i64 n',.string s']] w fun e w'=>e = .returned (.bool (lets y k n s k' n' s'))∧Below w.heap.size w w':=by
 have hs':=val_size hv
 have Hw:Hid (wayOk y k n s=true):=hw
 have Hv:Hid (valOk k' n' s'=true):=hv
 clear hw hv
 rcases way_cases Hw.out with rfl | rfl | rfl | rfl | rfl | rfl | rfl | rfl | rfl | rfl
 ·go_enter Tryz.func140,Tryz.ntmps140
  go_wp2
  go_ret
  exact ⟨ret_bool (by simp [lets]),((Below.refl _ _).alloc (Nat.le_refl _) _).alloc (by simp) _⟩
 all_goals
  by_cases hk:(k != k')=true
  ·go_enter Tryz.func140,Tryz.ntmps140
   go_wp2
   go_ret
   exact ⟨ret_bool (by simp [lets,hk]),((Below.refl _ _).alloc (Nat.le_refl _) _).alloc (by simp) _⟩
  ·have hk':k=k':=by simpa using hk
   subst hk'
   clear hk
   go_enter Tryz.func140,Tryz.ntmps140
   go_wp2_with (first | (go_at_call 160;refine (Tryz.strings_HasPrefix _ _ _).mono ?_;rintro e w' ⟨rfl,rfl⟩) | (go_at_call 161;refine (Tryz.strings_HasSuffix _ _ _ (by omega)).mono ?_;rintro e w' ⟨rfl,rfl⟩) | (go_at_call 162;refine (Tryz.strings_Contains _ _ m _ (by omega) ((hM.alloc _).alloc _).cell).mono ?_;rintro e w' ⟨rfl,rfl⟩))
   all_goals
    go_ret
    refine ⟨ret_bool ?_,((Below.refl _ _).alloc (Nat.le_refl _) _).alloc (by simp) _⟩
    go_light
    first | (have h1:=way_mid Hw.out (by omega) (by omega);obtain ⟨rfl,h1⟩:=h1;have h2:=val_int Hv.out;simp_all [lets];done) | (simp_all [lets];done) | (simp [lets];omega)
end Go.Proofs.YtecnfgikbmcgoaaGreat
