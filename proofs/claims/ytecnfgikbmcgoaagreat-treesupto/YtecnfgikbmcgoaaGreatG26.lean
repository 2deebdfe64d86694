import Derived.Test.YtecnfgikbmcgoaaGreatG25
import Derived.Test.YtecnfgikbmcgoaaGreatG22
namespace Go.Proofs.YtecnfgikbmcgoaaGreat
open Go.RowKit
theorem Tryz.infoRCl:(Tryz.prog.info? 167).map (fun i=>(i.zero,i.size,i.bytes))=some (some (.agg #[.int .i64 0,.int .i64 0,.slice none 0 0,.int .i64 0]),4,48):=by kernel_rfl
theorem rcells_snoc (l:List Rcl) (c:Rcl):rcells (l++[c])=rcells l++rcell c:=by simp [rcells]
theorem kat_snoc {cs:List Rcl} {c:Rcl} {j:Nat} (h:j<cs.length):kat (cs++[c]) j=kat cs j:=by
 unfold kat
 rw [List.getD_eq_getElem?_getD,List.getD_eq_getElem?_getD,List.getElem?_append_left h]
theorem kat_last (cs:List Rcl) (c:Rcl):kat (cs++[c]) cs.length=c:=by simp [kat]
section
variable {A:Nat→Prop} {C:Rc} {R:Nat→Rl} {w:World} {ads:Nat→Option Addr × Nat} {Xs:Nat→List Hm} {lv cv:Value} {Ls:List Rln} {cs:List Rcl}
theorem Rt.join (h:Rt A C R w ads Xs lv Ls cv cs) (n:Int) (b:Nat) {w1:World} {v':Value} (hq:Qr w1 167 4 (fun i=>v'.ownBlock=some i) v' (cs.length+1) (rcells cs++[.int .i64 n,.int .i64 (b:Int),.slice none 0 0,.int .i64 0])) (hg:w.grownBy w1 cv.ownBlock)
  (ho:v'.ownBlock=cv.ownBlock∨v'.ownBlock=some w.heap.size) :
  ∃ R',Rt A C R' (w1.setCell ⟨C.TB,2,none⟩ v') ads Xs lv Ls v' (cs++[⟨n,b,[],none,0,0⟩])∧Fr R R' w (w1.setCell ⟨C.TB,2,none⟩ v'):=by
 have hown:=h.k.cl.own
 have hs1:=hg.size
 have hs:w.heap.size≤(w1.setCell ⟨C.TB,2,none⟩ v').heap.size:=by rw [size_set];exact hs1
 have hsame:∀ i,i<w.heap.size→(if v'.ownBlock=some i then Rl.cl 0 else R i)=R i:=by
  intro i hi
  split
  ·rename_i e
   rcases ho with h1 | h1
   ·rw [h1] at e;exact (hown i e).1.symm
   ·rw [h1] at e;injection e with e;omega
  ·rfl
 have ke:∀ i,i<w.heap.size→R i ≠ .cl 0→R i ≠ .cm→(w1.setCell ⟨C.TB,2,none⟩ v').heap[i]? = w.heap[i]? := fun i hi h2 h3=>by
  rw [Below.heap_setCell w1 _ v' i (fun e=>h3 (by have e:i=C.TB:=e;rw [e];exact h.b.rT))]
  exact hg.block i hi (fun e=>h2 (hown i e.symm).1)
 have ne:∀ {i:Nat} {x:Rl},R i=x→x ≠ .cl 0→x ≠ .cm→R i ≠ .cl 0∧R i ≠ .cm:=fun e hx hy=>by rw [e];exact ⟨hx,hy⟩
 have kA:∀ i,A i→R i ≠ .cl 0∧R i ≠ .cm:=fun i hi=>ne (h.b.aR i hi) (fun e=>by cases e) (fun e=>by cases e)
 have htop:∀ i,(w1.setCell ⟨C.TB,2,none⟩ v').heap.size≤i→(if v'.ownBlock=some i then Rl.cl 0 else R i) = .no:=by
  intro i hi
  rw [size_set] at hi
  rw [if_neg (fun e=>by have:=(hq.own i e).2;omega)]
  exact h.b.top i (Nat.le_trans hs1 hi)
 have haR:∀ i,A i→(if v'.ownBlock=some i then Rl.cl 0 else R i) = .no:=fun i hi=>by rw [hsame i (h.b.aL i hi)];exact h.b.aR i hi
 have hT1:w1.heap[C.TB]? = some (.cells #[.slice (some ⟨C.HB,0,none⟩) C.nb C.hcap,lv,cv] 165 (0,0)):=(hg.block _ h.tlt (fun e=>by have:=(hown _ e.symm).1;rw [h.b.rT] at this;cases this)).trans h.b.t
 have nT:∀ i,v'.ownBlock=some i→i≠C.TB:=fun i hi e=>by
  have a:=hsame C.TB h.tlt
  rw [e] at hi
  rw [if_pos hi,h.b.rT] at a
  cases a
 obtain ⟨cur,c1,c2⟩:=h.b.h
 have e1:=ne h.b.rH (fun e=>by cases e) (fun e=>by cases e)
 refine ⟨fun i=>if v'.ownBlock=some i then .cl 0 else R i,⟨⟨h.b.nb8,h.b.pos,?_,(hsame _ h.tlt).trans h.b.rT,⟨cur,(ke _ (blk_lt c1) e1.1 e1.2).trans c1,c2⟩,(hsame _ (blk_lt c1)).trans h.b.rH,htop,haR,fun i hi=>Nat.lt_of_lt_of_le (h.b.aL i hi) hs⟩,h.h.keep hs (fun i hi hr=>?_) hsame,h.l.keep hs (fun i hi hr=>?_) hsame,⟨?_,fun j hj=>?_,fun c hc x hx=>?_⟩⟩,⟨hg.os,hg.tape,hg.output,hs,fun i hi hr=>?_,hsame⟩⟩
 ·rw [heap_setCell_same _ _ _ _ _ _ hT1];rfl
 ·have:R i ≠ .cl 0∧R i ≠ .cm:=by
   rcases hr with hr | hr
   ·exact ne hr (fun e=>by cases e) (fun e=>by cases e)
   ·exact kA i hr
  exact ke i hi this.1 this.2
 ·have:R i ≠ .cl 0∧R i ≠ .cm:=by
   rcases hr with hr | ⟨j,hr⟩ | hr | hr
   ·exact ne hr (fun e=>by cases e) (fun e=>by cases e)
   ·exact ne hr (fun e=>by cases e) (fun e=>by cases e)
   ·exact ne hr (fun e=>by cases e) (fun e=>by cases e)
   ·exact kA i hr
  exact ke i hi this.1 this.2
 ·rw [List.length_append,rcells_snoc]
  exact hq.kept fun g _ hg'=>⟨Below.heap_setCell w1 _ v' g (nT g hg'),if_pos hg'⟩
 ·rw [List.length_append] at hj
  by_cases hj':j<cs.length
  ·rw [kat_snoc hj']
   exact (h.k.bx j hj').kept fun g hg' hR=>⟨ke g hg' (ne hR (fun e=>by cases e) (fun e=>by cases e)).1 (ne hR (fun e=>by cases e) (fun e=>by cases e)).2,(hsame g hg').trans hR⟩
  ·have e:j=cs.length:=by simp at hj;omega
   subst e
   rw [kat_last]
   exact Qr.nil _ _ _ _
 ·rcases List.mem_append.1 hc with hc | hc
  ·exact (h.k.be c hc x hx).keep hs (fun i hi ha=>ke i hi (kA i ha).1 (kA i ha).2)
  ·rw [List.mem_singleton.1 hc] at hx;cases hx
 ·have:R i ≠ .cl 0∧R i ≠ .cm:=by rcases hr with hr | hr <;> exact ne hr (fun e=>by cases e) (fun e=>by cases e)
  exact ke i hi this.1 this.2
end
set_option maxRecDepth 100000 in
set_option maxHeartbeats 4000000 in
theorem rAttach_ok (A:Nat→Prop) (C:Rc) (R:Nat→Rl) (w:World) (ads:Nat→Option Addr × Nat) (Xs:Nat→List Hm) (lv cv:Value) (Ls:List Rln) (cs:List Rcl) (h:Rt A C R w ads Xs lv Ls cv cs) (n:Int) (b:Nat) (hb:b<C.nb) (hn:∀ c∈cs,c.num≠n) (hl:cs.length≤15) :
  Calls Tryz.prog 59 #[.pointer (some ⟨C.TB,0,none⟩),.int .i64 n,.int .i64 b] w fun e w'=>e = .returned (.int .i64 0) ∧ ∃ R' cv',Rt A C R' w' ads Xs lv Ls cv' (cs++[⟨n,b,[],none,0,0⟩])∧Fr R R' w w':=by
 obtain ⟨i0,hi,hz0,hz1,hz2⟩:=info_parts Tryz.infoRCl
 have hnb:=h.b.nb8
 obtain ⟨ca,cc,rfl⟩:=h.k.cl.shape
 have CL:=Hid.mk' (client_row C.TB ca cc cs n w h.c2 h.k.cl.rowAt (by omega))
 have HH:=Hid.mk' h
 have HN:=Hid.mk' hn
 have t0:=h.c0
 have t2:=h.c2
 have HTY:Hid (Value.ownBlock (.slice ca cs.length cc)≠some C.TB):=fun e=>absurd (h.k.cl.ownTy e h.b.t) (by decide)
 have htl:=h.tlt
 clear h hn
 go_enter Tryz.func59,Tryz.ntmps59
 go_wp2_with fail
 refine CL.out.mono ?_
 rintro e w1 ⟨hcase,hw⟩
 subst hw
 rcases hcase with ⟨j,hj,hk,rfl⟩ | ⟨_,rfl⟩
 ·exact absurd hk (HN.out _ (kat_mem hj))
 ·clear CL
  have HQC:=Hid.mk' (HH.out.gr ((Gr.refl w1).alloc (.cells #[.int .i64 n,.int .i64 (b:Int),.slice none 0 0,.int .i64 0] 167)))
  go_wp2_with (at_builtin;refine wpList_append_q rfl _ _ 163 rfl 167 i0 _ 4 48 Tryz.underlying163 hi hz0 hz1 hz2 rfl (fun i=>R i = .cl 0) _ _ (rcells cs) rfl HQC.out.k.cl ⟨w1.heap.size,0,none⟩ 1 1 [.int .i64 n,.int .i64 (b:Int),.slice none 0 0,.int .i64 0] rfl (by omega) rfl (World.news_of_block (new_atK rfl)) ?k2 ?k3 ?k4 ?_)
  case k2=>intro t ht;simp at ht;rcases ht with rfl | rfl | rfl | rfl <;> rfl
  case k3=>unfold maxLen;omega
  case k4=>omega
  intro v5 w5 hq5 hg5 ho5 _
  obtain ⟨ya,yk,rfl⟩:=hq5.shape
  have b5:w5.heap[C.TB]? = some (.cells #[.slice (some ⟨C.HB,0,none⟩) C.nb C.hcap,lv,.slice ca cs.length cc] 165 (0,0)):=(hg5.block C.TB (by simp;omega) (fun e=>HTY.out e.symm)).trans HQC.out.b.t
  have hc5:w5.cell? ⟨C.TB,2,none⟩=some (.slice ca cs.length cc):=by rw [cell_of_row _ _ _ _ _ _ b5];rfl
  have hf5:=frz0 b5 2
  have FIN:=Hid.mk' (HQC.out.join n b hq5 hg5 (by rw [size_alloc'];exact ho5))
  clear hq5 hg5 ho5 HQC b5 HTY t0 t2
  go_wp2_with fail
  go_ret
  obtain ⟨R',f1,f2⟩:=FIN.out
  exact ⟨rfl,R',_,f1,(Fr.gr ((Gr.refl w1).alloc _)).trans f2⟩
theorem pE_mem {h y:Hm} {X:List Hm} (hy:y∈pE h X):y=h∨y∈X:=by
 rw [pE_eq] at hy
 rcases List.mem_append.1 hy with hy | hy
 ·exact Or.inr (List.mem_filter.1 hy).1
 ·rcases List.mem_cons.1 hy with hy | hy
  ·exact Or.inl hy
  ·exact Or.inr (List.mem_filter.1 hy).1
section
variable {A:Nat→Prop} {C:Rc} {R:Nat→Rl} {w:World} {ads:Nat→Option Addr × Nat} {Xs:Nat→List Hm} {lv cv:Value} {Ls:List Rln} {cs:List Rcl}
theorem rPut (h:Rt A C R w ads Xs lv Ls cv cs) {b:Nat} (hb:b<C.nb) (x:Hm) (hx:FiO A w x.2.1 x.1.f) (hlen:(Xs b).length≤1048576) (hs:SrM (Xs b)) :
  Calls Tryz.prog 96 #[.pointer (some ⟨C.TB,0,none⟩),.int .i64 b,.agg (hv x.1 x.2.1 x.2.2)] w fun e w'=>e = .returned (.tuple #[]) ∧ ∃ R' ads',Rt A C R' w' ads' (fun i=>if i=b then pE x (Xs b) else Xs i) lv Ls cv cs∧Fr R R' w w':=by
 refine (put_row C.TB C.HB C.nb C.hcap (ads b).1 (ads b).2 (Xs b) x w b hb h.c0 (h.hbc hb) h.tlt h.hlt (h.hfz b) (h.h.row b hb).at' hlen hs).mono ?_
 rintro e w' ⟨rfl,w1,va,vk,g1,o1,rfl⟩
 obtain ⟨R',k1,k2⟩:=Rt.turnH (Fr.gr g1) (h.gr g1) hb (pE x (Xs b)) o1 (fun i hi=>h.b.top i (own_low o1 i hi)) h.b.aL (fun y hy=>by
  rcases pE_mem hy with rfl | hy
  ·exact hx.keep g1.size (fun k hk _=>g1.block k hk)
  ·exact (h.h.fi b hb y hy).keep g1.size (fun k hk _=>g1.block k hk))
 exact ⟨rfl,R',_,k1,k2⟩
theorem rDrop (h:Rt A C R w ads Xs lv Ls cv cs) {b:Nat} (hb:b<C.nb) (k:Ky) (hlen:(Xs b).length≤1048576) :
  Calls Tryz.prog 98 #[.pointer (some ⟨C.TB,0,none⟩),.int .i64 b,.agg #[.int .i64 k.1,.int .i64 k.2]] w fun e w'=>e = .returned (.tuple #[]) ∧ ∃ R' ads',Rt A C R' w' ads' (fun i=>if i=b then delM k (Xs b) else Xs i) lv Ls cv cs∧Fr R R' w w':=by
 refine (drop_row C.TB C.HB C.nb C.hcap (ads b).1 (ads b).2 (Xs b) w b hb k h.c0 (h.hbc hb) h.tlt h.hlt (h.hfz b) (h.h.row b hb).at' hlen).mono ?_
 rintro e w' ⟨rfl,w1,va,vk,g1,o1,rfl⟩
 obtain ⟨R',k1,k2⟩:=Rt.turnH (Fr.gr g1) (h.gr g1) hb (delM k (Xs b)) o1 (fun i hi=>h.b.top i (own_low o1 i hi)) h.b.aL (fun y hy=>(h.h.fi b hb y (List.mem_filter.1 hy).1).keep g1.size (fun k hk _=>g1.block k hk))
 exact ⟨rfl,R',_,k1,k2⟩
theorem Qr.tail {e:TypeId} {size:Nat} {P:Nat→Prop} {g off cap n:Nat} {ms xs:List Value} (h:Qr w e size P (.slice (some ⟨g,off,none⟩) (n+1) cap) (n+1) (ms++xs)) (hm:ms.length=size):Qr w e size P (.slice (if cap=1 then some ⟨g,off,none⟩ else some ⟨g,off+size,none⟩) n (cap - 1)) n xs:=by
 subst hm
 rcases h.2 with ⟨_,h3⟩ | ⟨g',off',cap',cur,hv,hR,hg,h4,h5,h6,h7⟩
 ·omega
 ·injection hv with hv _ hc
  injection hv with hv
  injection hv with h1 h2
  subst h1 h2 hc
  have:=Qr.pop (w':=w) (R:=P) h.1 (Nat.succ_pos n) hR h4 h5 h6 h7 hg rfl rfl
  rw [List.drop_left,Nat.add_sub_cancel] at this
  exact this
theorem Rt.take (h:Rt A C R w ads Xs lv Ls cv cs) {k:Nat} (hk:k<Ls.length) (x:Rms) (rest:List Rms) (hq:(lnat Ls k).q=x::rest) {qg qo:Nat} (hqa:(lnat Ls k).qad=some ⟨qg,qo,none⟩) {g off lc:Nat} (hlv:lv = .slice (some ⟨g,off,none⟩) Ls.length lc) :
  ∃ qa',qa'=(if (lnat Ls k).qcap=1 then some ⟨qg,qo,none⟩ else some ⟨qg,qo+5,none⟩)∧Rt A C R (w.setCell ⟨g,off+(k*4+2),none⟩ (.slice qa' rest.length ((lnat Ls k).qcap - 1))) ads Xs lv (Ls.set k (setQ (lnat Ls k) rest qa' ((lnat Ls k).qcap - 1))) cv cs∧Fr R R w (w.setCell ⟨g,off+(k*4+2),none⟩ (.slice qa' rest.length ((lnat Ls k).qcap - 1))):=by
 have QQ:=h.l.qu k hk
 rw [hq,hqa,List.length_cons,List.flatMap_cons] at QQ
 have Q2:=QQ.tail (rmcells_len x)
 refine ⟨_,rfl,?_⟩
 exact h.wlink hk (setQ (lnat Ls k) rest (if (lnat Ls k).qcap=1 then some ⟨qg,qo,none⟩ else some ⟨qg,qo+5,none⟩) ((lnat Ls k).qcap - 1)) 2 _ (lcellsR_setQ _ _ _ Ls k hk) Q2 (fun y hy=>h.l.ms _ (lnat_mem hk) y (by rw [hq];exact List.mem_cons_of_mem _ hy)) (h.l.td (lnat Ls k) (lnat_mem hk)) hlv
end
theorem rmcells_shape (x:Rms):∃ j0 k1 k2 a3 n3 c3 a4 n4 c4,rmcells x=[.int .i64 j0,.int .i64 k1,.int .i64 k2,.slice a3 n3 c3,.slice a4 n4 c4]:=by
 unfold rmcells;split <;> exact ⟨_,_,_,_,_,_,_,_,_,rfl⟩
theorem len16 {z:List Value} (h:z.length=16):∃ z0 z1 z2 z3 z4 z5 z6 z7 z8 z9 z10 z11 z12 z13 z14 z15,z=[z0,z1,z2,z3,z4,z5,z6,z7,z8,z9,z10,z11,z12,z13,z14,z15]:=by
 match z,h with
 | [z0,z1,z2,z3,z4,z5,z6,z7,z8,z9,z10,z11,z12,z13,z14,z15],_=>exact ⟨_,_,_,_,_,_,_,_,_,_,_,_,_,_,_,_,rfl⟩
def Rst (TB g off n lc k:Nat) (v v':Value) (j:Nat) (x:Value) (_w:World):Prop :=
 match j with
 | 0=>x = .pointer (some ⟨TB,0,none⟩)
 | 1=>x = .pointer (some ⟨TB,0,none⟩)
 | 2=>x = .pointer (some ⟨TB,1,none⟩)
 | 3=>x = .slice (some ⟨g,off,none⟩) n lc
 | 4=>x = .int .i64 k
 | 5=>x = .pointer (some ⟨TB,0,none⟩)
 | 6=>x = .pointer (some ⟨TB,0,none⟩)
 | 7=>x = .pointer (some ⟨TB,1,none⟩)
 | 8=>x = .slice (some ⟨g,off,none⟩) n lc
 | 9=>x = .int .i64 k
 | 10=>x = .pointer (some ⟨g,off+k*4,none⟩)
 | 11=>x = .pointer (some ⟨g,off+k*4+2,none⟩)
 | 12=>x=v
 | 13=>x=v'
 | 14=>x = .pointer (some ⟨g,off+k*4,none⟩)
 | 15=>x = .pointer (some ⟨g,off+k*4+2,none⟩)
 | _=>True
theorem Rst.st {TB g off n lc k:Nat} {v v':Value} (j:Nat) (x:Value) (wa wb:World) (h:Rst TB g off n lc k v v' j x wa):Rst TB g off n lc k v v' j x wb:=by
 unfold Rst at h ⊢;split <;> first | exact h | trivial
theorem Sm.pop {T:Tc} {s:Ts} (h:Sm T s) (a b:Nat):Sm T (s.pop a b):=by
 refine ⟨h.h,fun x y=>?_⟩
 have:=h.q x y
 simp only [TS.pop]
 split
 ·rw [List.length_tail];omega
 ·exact this
theorem Rv.pop {T:Tc} {Xs:Nat→List Hm} {Ls:List Rln} {s:Ts} (h:Rv T Xs Ls s) {k a b:Nat} (hk:k<Ls.length) (ha:(lnat Ls k).fr=a) (hb:(lnat Ls k).to=b) {x:Rms} {rest:List Rms} (hq:(lnat Ls k).q=x::rest) (qa:Option Addr) (qc:Nat):Rv T Xs (Ls.set k (setQ (lnat Ls k) rest qa qc)) (s.pop a b):=by
 refine ⟨h.held,?_⟩
 have hx:=alat h.lk hk
 rw [set_map_av,h.lk, ← links_pop hx ha hb]
 congr 1
 simp [Rln.av,setQ,hq]
theorem srm_of {X:List Hm} {l:List Hw} (h:X.map (·.1)=l) (hs:Srt l):SrM X:=by
 rw [← h] at hs
 exact List.pairwise_map.1 hs
theorem Rv.find {T:Tc} {Xs:Nat→List Hm} {Ls:List Rln} {s:Ts} (h:Rv T Xs Ls s) {a b:Nat} (ha:a<T.nb) (hb:b<T.nb) (hab:T.adj a b=true):∃ k,k<Ls.length∧(lnat Ls k).av=⟨a,b,s.q a b,keysH (told cov (s.held a) b)⟩ ∧ ∀ j,j<Ls.length→(lnat Ls j).fr=a→(lnat Ls j).to=b→j=k:=by
 obtain ⟨k,hk,hkk⟩:=List.getElem_of_mem (lks_in ha hb hab)
 have hl:Ls.length=(lks T).length:=by
  have:=congrArg List.length h.lk
  rwa [List.length_map,linksOf_len] at this
 have hav:∀ j (hj:j<Ls.length),(lnat Ls j).av=⟨((lks T)[j]'(by omega)).1,((lks T)[j]'(by omega)).2,s.q ((lks T)[j]'(by omega)).1 ((lks T)[j]'(by omega)).2,keysH (told cov (s.held ((lks T)[j]'(by omega)).1) ((lks T)[j]'(by omega)).2)⟩:=by
  intro j hj
  have e:=alat h.lk hj
  unfold linksOf at e
  rw [List.getElem?_map,List.getElem?_eq_getElem (by omega)] at e
  injection e with e
  exact e.symm
 refine ⟨k,by omega,by rw [hav k (by omega),hkk],fun j hj h1 h2=>?_⟩
 have e:=av_eq (hav j hj)
 have hp:(lks T)[j]'(by omega)=(a,b):=Prod.ext (e.1.symm.trans h1) (e.2.1.symm.trans h2)
 have nd:=List.pairwise_iff_getElem.1 (lks_nd T)
 rcases Nat.lt_trichotomy j k with hlt | hlt | hlt
 ·exact absurd (by rw [hp,hkk]) (nd j k (by omega) hk hlt)
 ·exact hlt
 ·exact absurd (by rw [hp,hkk]) (nd k j hk (by omega) hlt)
set_option maxRecDepth 100000 in
set_option maxHeartbeats 4000000 in
theorem rStep_f (A:Nat→Prop) (C:Rc) (T:Tc) (R:Nat→Rl) (w:World) (cs:List (Pc (List Atr))) (s:Ts) (a b:Nat) (m:Ms (List Wnt) (List Atr)) (rs:List (Ms (List Wnt) (List Atr)))
  (hT:Rw A C T R w cs s) (ha:a<T.nb) (hb:b<T.nb) (hab:T.adj a b=true) (hq:s.q a b=m::rs) (hne:∀ e,m ≠ .ev e) (hs:Srt (s.held b)) (hm:Sm T s) (hm':((s.nstep cov T.adj mat a b m).held b).length≤1048576) :
  Calls Tryz.prog 65 #[.pointer (some ⟨C.TB,0,none⟩),.int .i64 a,.int .i64 b] w fun e w'=>e = .returned (.int .i64 0) ∧ ∃ R',Rw A C T R' w' cs (s.nstep cov T.adj mat a b m)∧Fr R R' w w':=by
 obtain ⟨ads,Xs,lv,Ls,cv,rc,rt,hnb,rv,hcs⟩:=hT
 obtain ⟨k0,hk0,hav0,huni⟩:=rv.find ha hb hab
 have hn64:=rv.n64 (by rw [← hnb];exact rt.b.nb8)
 have hnb8:=rt.b.nb8
 obtain ⟨la,lc,rfl⟩:=rt.lshape
 have HRT:=Hid.mk' rt
 have HRV:=Hid.mk' rv
 have HUN:=Hid.mk' huni
 have HAV:=Hid.mk' hav0
 have HQ:=Hid.mk' hq
 have HNE:=Hid.mk' hne
 have HS:=Hid.mk' hs
 have HM:=Hid.mk' hm
 have HM':=Hid.mk' hm'
 have HCS:=Hid.mk' hcs
 clear rt rv huni hav0 hq hne hs hm hm' hcs
 have t1:=HRT.out.c1
 have htl:=HRT.out.tlt
 go_enter Tryz.func65,Tryz.ntmps65
 go_wp2_with fail
 go_loopw [7] (fun i wr=>∃ q:Nat,q≤k0∧i = .int .i64 q∧Hid (Gr w wr)) (fun i _=>Ls.length - (intOf i).toNat)
 case atStart=>exact ⟨0,Nat.zero_le _,rfl,Gr.refl _⟩
 case round =>
  clear t1
  obtain ⟨q,hqk,rfl,G⟩:=hrel
  have hql:q<Ls.length:=by omega
  have t1:=(HRT.out.gr G.out).c1
  obtain ⟨g,off,rfl,hg,c0,c1,c2,c3⟩:=(HRT.out.gr G.out).l.lk.rowAt.lnk (j:=q) hql
  by_cases hqe:q=k0
  ·subst hqe
   obtain ⟨e1,e2,e3,_⟩:=av_eq HAV.out
   simp only at e1 e2 e3
   rw [HQ.out] at e3
   obtain ⟨x,rest,eq,ex,er⟩:=List.map_eq_cons_iff.1 e3
   rw [e1] at c0
   rw [e2] at c1
   have QQ:=(HRT.out.gr G.out).l.qu q hql
   have hlen:(lnat Ls q).q.length=rest.length+1:=by rw [eq];rfl
   rw [hlen] at c2
   have QQ2:=QQ
   rw [hlen] at QQ2
   obtain ⟨qg,qo,qc,qcur,hqv,_,hqg,_,hqcap⟩:=QQ2.some' (Nat.succ_pos _)
   injection hqv with hqa _ hqc
   rw [hqa,hqc] at c2
   have HQA:=Hid.mk' hqa
   have HE:=Hid.mk' (And.intro eq (And.intro ex er))
   obtain ⟨g',off3,cap3,cur3,eg,_,hgb,_⟩:=(HRT.out.gr G.out).l.lk.some' (by omega)
   injection eg with eg _ e9
   injection eg with eg
   injection eg with eg1 eg2
   subst eg1 eg2 e9
   have fz:=frz0 hgb (off+q*4+2)
   rw [eq,List.length_cons,List.flatMap_cons,hqa] at QQ
   have hqs:qg<wr.heap.size:=blk_lt hqg
   obtain ⟨j0,k1,k2,a3,n3,c3',a4,n4,c4,hy⟩:=rmcells_shape x
   rw [hy] at QQ
   have d0:wr.cell? ⟨qg,qo,none⟩=some (.int .i64 j0):=QQ.cellAt (j:=0) rfl
   have d1:wr.cell? ⟨qg,qo+1,none⟩=some (.int .i64 k1):=QQ.cellAt (j:=1) rfl
   have d2:wr.cell? ⟨qg,qo+1+1,none⟩=some (.int .i64 k2):=QQ.cellAt (j:=2) rfl
   have d3:wr.cell? ⟨qg,qo+1+1+1,none⟩=some (.slice a3 n3 c3'):=QQ.cellAt (j:=3) rfl
   have d4:wr.cell? ⟨qg,qo+1+1+1+1,none⟩=some (.slice a4 n4 c4):=QQ.cellAt (j:=4) rfl
   have hgl:g<wr.heap.size:=hg
   have HYY:=Hid.mk' hy
   have hqk1:rest.length+1≤qc:=by omega
   clear hy QQ QQ2 hqg hgb HUN e3 hlen
   go_wp2_with fail
   have GW:=Hid.mk' ((Gr.refl wr).alloc (.cells #[.int .i64 j0,.int .i64 k1,.int .i64 k2,.slice a3 n3 c3',.slice a4 n4 c4] 209))
   have P0:=Hid.mk' (heap_alloc_new wr (.cells #[.int .i64 j0,.int .i64 k1,.int .i64 k2,.slice a3 n3 c3',.slice a4 n4 c4] 209))
   generalize wr.alloc (.cells #[.int .i64 j0,.int .i64 k1,.int .i64 k2,.slice a3 n3 c3',.slice a4 n4 c4] 209)=W1 at *
   have ht':C.TB<wr.heap.size:=G.out.lt htl
   have t1':=((bcell GW.out).1 _ 1 ht').trans t1
   have c2':W1.cell? ⟨g,off+q*4+2,none⟩=some (.slice (some ⟨qg,qo,none⟩) (rest.length+1) qc):=((bcell GW.out).1 _ (off+q*4+2) hgl).trans c2
   have fz':=((bcell GW.out).2 _ (off+q*4+2) hgl).trans fz
   have q0:(0:Int)≤(q:Int):=by omega
   have ql:(q:Int)<(Ls.length:Int):=by omega
   clear t1 c0 c1 c2 c3 fz d0 d1 d2 d3 d4
   refine region_D rfl 16 (by rfl) (fun i=>62+i) (fun i _ j _ h=>by omega) (Rst C.TB g off Ls.length lc q (.slice (some ⟨qg,qo,none⟩) (rest.length+1) qc) (.slice (if qc=1 then some ⟨qg,qo,none⟩ else some ⟨qg,qo+5,none⟩) rest.length (qc - 1))) (Ef0 _ 62 16) (fun w'=>w'=W1.drew) (fun _ wa wb=>wb=wa) (fun a i x hi h=>Ef0.put (by simp) a i x hi h) (fun a h i hi=>by have:=h.sz (by simp);simp at this;omega) (fun i wa wb h g=>g.trans h) (fun i j x wa wb _ h _=>Rst.st j x wa wb h) ?front ?last (Ef0.start _ 62 16 (by simp)) rfl
   case front =>
    intro i o a' wz ho hi' hE hW hd K hK
    have t0:a'.tmps[0]?.getD undef = .pointer (some ⟨C.TB,0,none⟩):=(evn a' 0).symm.trans (hE.at_ (by simp) (by omega))
    have t7:a'.tmps[7]?.getD undef = .int .i64 q:=(evn a' 7).symm.trans (hE.at_ (by simp) (by omega))
    have z1:wz.cell? ⟨C.TB,1,none⟩=some (.slice (some ⟨g,off,none⟩) Ls.length lc):=by rw [hW];exact t1'
    have z2:wz.cell? ⟨g,off+q*4+2,none⟩=some (.slice (some ⟨qg,qo,none⟩) (rest.length+1) qc):=by rw [hW];exact c2'
    clear hE hW
    match i,ho,hi',hd,hK with
    | 0,ho,_,hd,hK =>
     obtain rfl:=Option.some.inj ho
     clear hd
     unfold Oper.wp
     go_simp
     exact hK _ _ rfl rfl
    | 1,ho,_,hd,hK =>
     obtain rfl:=Option.some.inj ho
     have e0:a'.eval (.tmp 62) = .pointer (some ⟨C.TB,0,none⟩):=hd ⟨0,.data⟩ (by simp) rfl
     rw [evn] at e0
     clear hd
     unfold Oper.wp
     go_simp
     exact hK _ _ rfl rfl
    | 2,ho,_,hd,hK =>
     obtain rfl:=Option.some.inj ho
     have e0:a'.eval (.tmp 63) = .pointer (some ⟨C.TB,0,none⟩):=hd ⟨1,.data⟩ (by simp) rfl
     rw [evn] at e0
     clear hd
     unfold Oper.wp
     go_simp
     exact hK _ _ rfl rfl
    | 3,ho,_,hd,hK =>
     obtain rfl:=Option.some.inj ho
     have e0:a'.eval (.tmp 64) = .pointer (some ⟨C.TB,1,none⟩):=hd ⟨2,.data⟩ (by simp) rfl
     rw [evn] at e0
     clear hd
     unfold Oper.wp
     go_simp
     exact hK _ _ rfl rfl
    | 4,ho,_,hd,hK =>
     obtain rfl:=Option.some.inj ho
     clear hd
     unfold Oper.wp
     go_simp
     exact hK _ _ rfl rfl
    | 5,ho,_,hd,hK =>
     obtain rfl:=Option.some.inj ho
     clear hd
     unfold Oper.wp
     go_simp
     exact hK _ _ rfl rfl
    | 6,ho,_,hd,hK =>
     obtain rfl:=Option.some.inj ho
     have e0:a'.eval (.tmp 67) = .pointer (some ⟨C.TB,0,none⟩):=hd ⟨5,.data⟩ (by simp) rfl
     rw [evn] at e0
     clear hd
     unfold Oper.wp
     go_simp
     exact hK _ _ rfl rfl
    | 7,ho,_,hd,hK =>
     obtain rfl:=Option.some.inj ho
     have e0:a'.eval (.tmp 68) = .pointer (some ⟨C.TB,0,none⟩):=hd ⟨6,.data⟩ (by simp) rfl
     rw [evn] at e0
     clear hd
     unfold Oper.wp
     go_simp
     exact hK _ _ rfl rfl
    | 8,ho,_,hd,hK =>
     obtain rfl:=Option.some.inj ho
     have e0:a'.eval (.tmp 69) = .pointer (some ⟨C.TB,1,none⟩):=hd ⟨7,.data⟩ (by simp) rfl
     rw [evn] at e0
     clear hd
     unfold Oper.wp
     go_simp
     exact hK _ _ rfl rfl
    | 9,ho,_,hd,hK =>
     obtain rfl:=Option.some.inj ho
     clear hd
     unfold Oper.wp
     go_simp
     exact hK _ _ rfl rfl
    | 10,ho,_,hd,hK =>
     obtain rfl:=Option.some.inj ho
     have e0:a'.eval (.tmp 70) = .slice (some ⟨g,off,none⟩) Ls.length lc:=hd ⟨8,.data⟩ (by simp) rfl
     have e1:a'.eval (.tmp 71) = .int .i64 q:=hd ⟨9,.data⟩ (by simp) rfl
     rw [evn] at e0 e1
     clear hd
     unfold Oper.wp
     go_simp
     exact hK _ _ rfl rfl
    | 11,ho,_,hd,hK =>
     obtain rfl:=Option.some.inj ho
     have e0:a'.eval (.tmp 72) = .pointer (some ⟨g,off+q*4,none⟩):=hd ⟨10,.data⟩ (by simp) rfl
     rw [evn] at e0
     clear hd
     unfold Oper.wp
     go_simp
     exact hK _ _ rfl rfl
    | 12,ho,_,hd,hK =>
     obtain rfl:=Option.some.inj ho
     have e0:a'.eval (.tmp 73) = .pointer (some ⟨g,off+q*4+2,none⟩):=hd ⟨11,.data⟩ (by simp) rfl
     rw [evn] at e0
     clear hd
     unfold Oper.wp
     go_simp
     exact hK _ _ rfl rfl
    | 13,ho,_,hd,hK =>
     obtain rfl:=Option.some.inj ho
     have e0:a'.eval (.tmp 74) = .slice (some ⟨qg,qo,none⟩) (rest.length+1) qc:=hd ⟨12,.data⟩ (by simp) rfl
     rw [evn] at e0
     clear hd
     have hl1:(1:Int)≤(rest.length:Int)+1:=by omega
     unfold Oper.wp
     go_simp
     exact hK _ _ rfl rfl
    | 14,ho,_,hd,hK =>
     obtain rfl:=Option.some.inj ho
     have e0:a'.eval (.tmp 65) = .slice (some ⟨g,off,none⟩) Ls.length lc:=hd ⟨3,.data⟩ (by simp) rfl
     have e1:a'.eval (.tmp 66) = .int .i64 q:=hd ⟨4,.data⟩ (by simp) rfl
     rw [evn] at e0 e1
     clear hd
     unfold Oper.wp
     go_simp
     exact hK _ _ rfl rfl
    | 15,ho,_,hd,hK =>
     obtain rfl:=Option.some.inj ho
     have e0:a'.eval (.tmp 76) = .pointer (some ⟨g,off+q*4,none⟩):=hd ⟨14,.data⟩ (by simp) rfl
     rw [evn] at e0
     clear hd
     unfold Oper.wp
     go_simp
     exact hK _ _ rfl rfl
    | k'+16,_,hi',_,_=>exact absurd hi' (by omega)
   case last =>
    intro o a' wz ho hE hW hd K hK
    obtain rfl:=Option.some.inj ho
    have e15:a'.eval (.tmp 77) = .pointer (some ⟨g,off+q*4+2,none⟩):=hd 15 (by omega)
    have e13:a'.eval (.tmp 75) = .slice (if qc=1 then some ⟨qg,qo,none⟩ else some ⟨qg,qo+5,none⟩) rest.length (qc - 1):=hd 13 (by omega)
    have z2:wz.cell? ⟨g,off+q*4+2,none⟩=some (.slice (some ⟨qg,qo,none⟩) (rest.length+1) qc):=by rw [hW];exact c2'
    have zf:wz.frozen? ⟨g,off+q*4+2,none⟩=false:=by rw [hW];exact fz'
    have GZ:Hid (Gr wr wz):=by rw [hW];exact GW.out.drew
    have PZ:Hid (wz.heap[wr.heap.size]? = some (.cells #[.int .i64 j0,.int .i64 k1,.int .i64 k2,.slice a3 n3 c3',.slice a4 n4 c4] 209 (0,0))):=by rw [hW];exact P0.out
    have hdf:=hE.df
    obtain ⟨z,hz,hts⟩:=hE.ts
    have HTS:=Hid.mk' (And.intro hz (And.intro hts hdf))
    clear hz hts hdf hd hE hW ho GW P0 t1' c2' fz'
    rw [evn] at e15 e13
    obtain ⟨eq,ex,er⟩:=HE.out
    obtain ⟨qa',hqa',RT2,FR2⟩:=(HRT.out.gr (Gr.call G.out GZ.out)).take hql x rest eq HQA.out rfl
    rw [hqc] at hqa' RT2 FR2
    rw [← Nat.add_assoc] at RT2 FR2
    rw [← hqa'] at e13
    have RV2:=Hid.mk' (HRV.out.pop hql e1 e2 eq qa' (qc - 1))
    have HR2:=Hid.mk' RT2
    have HF2:=Hid.mk' FR2
    have PS:Hid ((wz.setCell ⟨g,off+q*4+2,none⟩ (.slice qa' rest.length (qc - 1))).heap[wr.heap.size]? = some (.cells #[.int .i64 j0,.int .i64 k1,.int .i64 k2,.slice a3 n3 c3',.slice a4 n4 c4] 209 (0,0))):=(Below.heap_setCell wz _ _ _ (by show wr.heap.size≠g;omega)).trans PZ.out
    have FXY:Hid (RmOk A (wz.setCell ⟨g,off+q*4+2,none⟩ (.slice qa' rest.length (qc - 1))) x):=RmOk.keep ((HRT.out.gr (Gr.call G.out GZ.out)).l.ms _ (lnat_mem hql) x (by rw [eq];exact List.mem_cons_self)) HF2.out.size (fun k hk ha=>HF2.out.keep k hk (Or.inl (HRT.out.b.aR k ha)))
    clear RT2 FR2 hqa'
    unfold Oper.wp
    go_simp
    refine hK _ _ ?_
    clear e15 e13 hK z2 zf
    obtain ⟨hz,hts,hdf⟩:=HTS.out
    obtain ⟨z0,z1',z2',z3',z4,z5,z6,z7,z8,z9,z10,z11,z12,z13,z14,z15,rfl⟩:=len16 hz
    obtain ⟨tm,df⟩:=a'
    simp only at hts hdf
    subst hts hdf
    clear hz HTS
    simp only [List.take_succ_cons,List.take_zero,List.drop_succ_cons,List.drop_zero,List.cons_append,List.nil_append]
    have hxx:=HYY.out
    generalize hW3:wz.setCell ⟨g,off+q*4+2,none⟩ (.slice qa' rest.length (qc - 1))=W3 at *
    have F3:Hid (Fr R R w W3):=(Fr.gr (Gr.call G.out GZ.out)).trans HF2.out
    clear hW3 HF2 GZ PZ
    have hbC:b<C.nb:=by omega
    have hXb:(Xs b).length≤1048576:=by
     have e:=congrArg List.length (HRV.out.held b hb)
     rw [List.length_map] at e
     rw [e];exact HM.out.h b hb
    cases m with
    | ev e=>exact absurd rfl (HNE.out e)
    | uns kk =>
     have hy':rmcells x=[.int .i64 2,.int .i64 kk.1,.int .i64 kk.2,.slice none 0 0,.slice none 0 0]:=by unfold rmcells;rw [ex]
     rw [hy'] at hxx
     simp only [List.cons.injEq,Value.int.injEq,Value.slice.injEq,true_and,and_true] at hxx
     obtain ⟨rfl,rfl,rfl,⟨rfl,rfl,rfl⟩,rfl,rfl,rfl⟩:=hxx
     have p0:W3.cell? ⟨wr.heap.size,0,none⟩=some (.int .i64 2):=by rw [cell_of_row _ _ _ _ _ _ PS.out];rfl
     have p1:W3.cell? ⟨wr.heap.size,1,none⟩=some (.int .i64 kk.1):=by rw [cell_of_row _ _ _ _ _ _ PS.out];rfl
     have p2:W3.cell? ⟨wr.heap.size,1+1,none⟩=some (.int .i64 kk.2):=by rw [cell_of_row _ _ _ _ _ _ PS.out];rfl
     clear hy' HYY
     have HXL:Hid ((delM kk (Xs b)).length≤1048576):=Nat.le_trans (List.length_filter_le _ _) hXb
     have D1:=Hid.mk' (rDrop HR2.out hbC kk hXb)
     go_wp2_with fail
     refine D1.out.mono ?_
     rintro e w4 ⟨rfl,R4,ads4,rt4,fr4⟩
     have CH:=Hid.mk' (changed_row A C R4 w4 ads4 _ _ cv _ rc rt4 b hbC (by simp only [if_true];exact HXL.out) (RV2.out.qlen (HM.out.pop a b)) (by rw [List.length_set];exact hn64))
     have F4:=Hid.mk' (F3.out.trans fr4)
     clear rt4 fr4 D1
     go_wp2_with fail
     refine CH.out.mono ?_
     rintro e w5 ⟨rfl,R5,L5,rt5,fr5,hm5⟩
     simp only [if_true] at hm5
     have FIN:Hid (∃ R',Rw A C T R' w5 cs (s.nstep cov T.adj mat a b (.uns kk))∧Fr R R' w w5):=⟨R5,⟨ads4,_,_,L5,cv,rc,rt5,hnb,RV2.out.turn b (delM kk (Xs b)) _ (by rw [delM_del,HRV.out.held b hb]) hm5,HCS.out⟩,F4.out.trans fr5⟩
     clear rt5 fr5 hm5 CH
     go_wp2_with fail
     go_ret
     exact ⟨rfl,FIN.out⟩
    | sub kk f =>
     have hy':rmcells x=[.int .i64 1,.int .i64 kk.1,.int .i64 kk.2,.slice x.ad f.length x.cap,.slice none 0 0]:=by unfold rmcells;rw [ex]
     rw [hy'] at hxx
     simp only [List.cons.injEq,Value.int.injEq,Value.slice.injEq,true_and,and_true] at hxx
     obtain ⟨rfl,rfl,rfl,⟨rfl,rfl,rfl⟩,rfl,rfl,rfl⟩:=hxx
     have p0:W3.cell? ⟨wr.heap.size,0,none⟩=some (.int .i64 1):=by rw [cell_of_row _ _ _ _ _ _ PS.out];rfl
     have p1:W3.cell? ⟨wr.heap.size,1,none⟩=some (.int .i64 kk.1):=by rw [cell_of_row _ _ _ _ _ _ PS.out];rfl
     have p2:W3.cell? ⟨wr.heap.size,1+1,none⟩=some (.int .i64 kk.2):=by rw [cell_of_row _ _ _ _ _ _ PS.out];rfl
     have p3:W3.cell? ⟨wr.heap.size,3,none⟩=some (.slice x.ad f.length x.cap):=by rw [cell_of_row _ _ _ _ _ _ PS.out];rfl
     clear hy' HYY
     have FX3:Hid (FiO A W3 x.ad f):=by
      have h:=FXY.out
      unfold RmOk at h
      rw [ex] at h
      exact h
     have HXE:=Hid.mk' ((pE_ins (⟨kk,f,(a:Int)⟩,x.ad,x.cap) (Xs b)).trans (by rw [HRV.out.held b hb]))
     have HXL:Hid ((pE (⟨kk,f,(a:Int)⟩,x.ad,x.cap) (Xs b)).length≤1048576):=by
      have e:=congrArg List.length HXE.out
      rw [List.length_map] at e
      have h:=HM'.out
      show _≤_
      rw [e]
      simpa [TS.nstep,TS.arr,TS.turn] using h
     have D1:=Hid.mk' (rPut HR2.out hbC (⟨kk,f,(a:Int)⟩,x.ad,x.cap) FX3.out hXb (srm_of (HRV.out.held b hb) HS.out))
     go_wp2_with fail
     refine D1.out.mono ?_
     rintro e w4 ⟨rfl,R4,ads4,rt4,fr4⟩
     have CH:=Hid.mk' (changed_row A C R4 w4 ads4 _ _ cv _ rc rt4 b hbC (by simp only [if_true];exact HXL.out) (RV2.out.qlen (HM.out.pop a b)) (by rw [List.length_set];exact hn64))
     have F4:=Hid.mk' (F3.out.trans fr4)
     clear rt4 fr4 D1
     go_wp2_with fail
     refine CH.out.mono ?_
     rintro e w5 ⟨rfl,R5,L5,rt5,fr5,hm5⟩
     simp only [if_true] at hm5
     have FIN:Hid (∃ R',Rw A C T R' w5 cs (s.nstep cov T.adj mat a b (.sub kk f))∧Fr R R' w w5):=⟨R5,⟨ads4,_,_,L5,cv,rc,rt5,hnb,RV2.out.turn b (pE (⟨kk,f,(a:Int)⟩,x.ad,x.cap) (Xs b)) _ (HXE.out) hm5,HCS.out⟩,F4.out.trans fr5⟩
     clear rt5 fr5 hm5 CH
     go_wp2_with fail
     go_ret
     exact ⟨rfl,FIN.out⟩
  ·have hne':¬ ((lnat Ls q).fr=a∧(lnat Ls q).to=b):=fun ⟨h1,h2⟩=>hqe (HUN.out q hql h1 h2)
   have hqk':q+1≤k0:=by omega
   clear hqe hqk
   generalize lnat Ls q=l at *
   by_cases e1:l.fr=a
   ·have e2:((l.to:Int)==(b:Int))=false:=by simp;intro h;exact hne' ⟨e1,by omega⟩
    rw [e1] at c0
    clear hne' e1
    go_wp2_with fail
    all_goals exact ⟨⟨q+1,hqk',by simp,G⟩,measM_dec _ _ hql⟩
   ·have e2:((l.fr:Int)==(a:Int))=false:=by simp;omega
    clear hne' e1
    go_wp2_with fail
    all_goals exact ⟨⟨q+1,hqk',by simp,G⟩,measM_dec _ _ hql⟩
end Go.Proofs.YtecnfgikbmcgoaaGreat
namespace Go.Proofs.YtecnfgikbmcgoaaGreat
open Go.RowKit
open Go.Maps (Keyed)
def dstep (T:Tc) (x:Ts × List (Pc (List Atr))):Option (Ts × List (Pc (List Atr))) :=
 match fst_ (lkTo T x.1 T.nb) with
 | none=>none
 | some y =>
  match x.1.q y.1 y.2.1 with
  | []=>none
  | m::_=>some (x.1.nstep cov T.adj mat y.1 y.2.1 m,hrs mat (x.1.held y.2.1) y.1 m x.2)
def drn (T:Tc):Nat→Ts × List (Pc (List Atr))→Option (Ts × List (Pc (List Atr)))
 | 0,x=>some x
 | n+1,x=>(drn T n x).bind (dstep T)
theorem drn_past {T:Tc} {x y:Ts × List (Pc (List Atr))} {c:Nat} (h:drn T c x=some y) (hy:dstep T y=none):∀ d,drn T (c+1+d) x=none
 | 0=>by show (drn T c x).bind (dstep T)=none;rw [h];exact hy
 | d+1=>by show (drn T (c+1+d) x).bind (dstep T)=none;rw [drn_past h hy d];rfl
theorem drn_one {T:Tc} {x y z:Ts × List (Pc (List Atr))} {c d:Nat} (h:drn T c x=some y) (hy:dstep T y=none) (k:drn T d x=some z) (hz:dstep T z=none):c=d∧y=z:=by
 rcases Nat.lt_trichotomy c d with hcd | hcd | hcd
 ·have:=drn_past h hy (d - (c+1))
  rw [show c+1+(d - (c+1))=d by omega,k] at this
  cases this
 ·subst hcd
  rw [h] at k
  injection k with k
  exact ⟨rfl,k⟩
 ·have:=drn_past k hz (c - (d+1))
  rw [show d+1+(c - (d+1))=c by omega,h] at this
  cases this
set_option maxRecDepth 100000 in
set_option maxHeartbeats 4000000 in
theorem Drain_d (T:Tc) (r:Nat→Rl) (w:World) (cs:List (Pc (List Atr))) (s:Ts) (nxt:Nat→Nat→Int) (rank:Nat→Nat→Nat) (home:Int→Nat) (Ks:List Ky) (n M:Nat)
  (hT:Tf T r w cs s) (S:Sh T nxt rank) (G:Gd T nxt rank home Ks s cs n M) (hK:Ks.length≤1048576) (hM:M<549755813888) :
  Calls Tryz.prog 14 #[.pointer (some ⟨T.TB,0,none⟩)] w fun e w'=>∃ k s' cs' r' n',e = .returned (.int .i64 (k:Nat))∧drn T k (s,cs)=some (s',cs')∧dstep T (s',cs')=none∧Tf T r' w' cs' s'∧Gd T nxt rank home Ks s' cs' n' M∧k+n'≤n∧Fr r r' w w':=by
 have HT:=Hid.mk' hT
 have HS:=Hid.mk' S
 have HG:=Hid.mk' G
 have HAD:=Hid.mk' hT.b.adj
 have hnM:n<549755813888:=Nat.lt_of_le_of_lt G.le hM
 have HK:=Hid.mk' hK
 have HM:=Hid.mk' hM
 clear hT S G hK hM
 go_enter Tryz.func14,Tryz.ntmps14
 go_wp2_with fail
 go_loopg [3] n (fun k v wr=>∃ (c:Nat) (s':Ts) (cs':List (Pc (List Atr))) (r':Nat→Rl),v = .int .i64 c∧c+k≤n∧Hid (Gd T nxt rank home Ks s' cs' k M)∧Hid (drn T c (s,cs)=some (s',cs'))∧Hid (Tf T r' wr cs' s')∧Hid (Fr r r' w wr))
 case atStart=>exact ⟨0,s,cs,r,rfl,by omega,HG,rfl,HT,Fr.refl _ _⟩
 case round =>
  obtain ⟨c,s',cs',r',rfl,hck,G2,RN,T2,F2⟩:=hrel
  have SM2:=Hid.mk' (G2.out.sm HS.out HK.out HM.out)
  have FT:Hid (Calls Tryz.prog 38 #[.pointer (some ⟨T.TB,0,none⟩)] wr fun e w'=>e = .returned (fstV (fst_ (lkTo T s' T.nb)))∧Gr wr w'):=by
   obtain ⟨cls,t,_⟩:=T2.out
   exact first_any T r' wr cls s' t SM2.out
  cases hf:fst_ (lkTo T s' T.nb) with
  | none =>
   have QT:Hid (dstep T (s',cs')=none):=by
    show _=_
    unfold dstep
    rw [hf]
   rw [hf] at FT
   go_wp2_with fail
   refine FT.out.mono ?_
   rintro e w1 ⟨rfl,g1⟩
   unfold fstV
   have T3:=Hid.mk' (T2.out.gr (g1.alloc (.cells #[.int .i64 0,.int .i64 0,.int .i64 0] 54)))
   have F3:=Hid.mk' (F2.out.trans (Fr.gr (g1.alloc (.cells #[.int .i64 0,.int .i64 0,.int .i64 0] 54))))
   have HCK:=Hid.mk' hck
   clear FT g1
   go_wp2_with fail
   go_ret
   exact ⟨c,s',cs',r',_,rfl,RN.out,QT.out,T3.out,G2.out,HCK.out,F3.out⟩
  | some y =>
   have hy:=List.find?_some hf
   have hym:=lkTo_q (List.mem_of_find?_eq_some hf)
   simp only [decide_eq_true_eq] at hy
   obtain ⟨y1,y2,y3⟩:=y
   simp only at hy hym
   have hab:=hym.2.1
   have hltn:=HAD.out _ _ hab
   obtain ⟨m,rs,hq⟩:∃ m rs,s'.q y1 y2=m::rs:=by
    cases hq:s'.q y1 y2 with
    | nil=>rw [hq] at hym;simp at hym;omega
    | cons m rs=>exact ⟨m,rs,rfl⟩
   obtain ⟨k',hk',g'⟩:=G2.out.step HS.out hab hq
   have G3:=Hid.mk' g'
   have RN3:Hid (drn T (c+1) (s,cs)=some (s'.nstep cov T.adj mat y1 y2 m,hrs mat (s'.held y2) y1 m cs')):=by
    show _=_
    rw [drn,RN.out]
    show dstep T (s',cs')=_
    unfold dstep
    rw [hf]
    simp only [hq]
   have SP:Hid (∀ w',Gr wr w'→Calls Tryz.prog 37 #[.pointer (some ⟨T.TB,0,none⟩),.int .i64 y1,.int .i64 y2] w' fun e w2=>e = .returned (.int .i64 0) ∧ ∃ r2,Tf T r2 w2 (hrs mat (s'.held y2) y1 m cs') (s'.nstep cov T.adj mat y1 y2 m)∧Fr r' r2 w' w2):=fun w' g=>Step_t T r' w' cs' s' nxt home okF y1 y2 m rs (T2.out.gr g) G2.out.I hab hq SM2.out (fun c hc=>⟨(G2.out.L c hc).1,by have:=(G2.out.L c hc).2.1;have:=HM.out;omega⟩)
   rw [hf] at FT
   have hk:c+1≤4611686018427387904:=by omega
   have HK':=Hid.mk' hk'
   clear hf hym hy hq g' hk'
   go_wp2_with fail
   refine FT.out.mono ?_
   rintro e w1 ⟨rfl,g1⟩
   unfold fstV
   have g2:=g1.alloc (.cells #[.int .i64 (y1:Int),.int .i64 (y2:Int),.int .i64 (y3:Int)] 54)
   have SP2:=Hid.mk' (SP.out _ g2)
   have GG:=Hid.mk' g2
   clear FT g1 g2 SP
   go_wp2_with fail
   refine SP2.out.mono ?_
   rintro e w3 ⟨rfl,r2,z1,z2⟩
   have T3:=Hid.mk' z1
   have F3:=Hid.mk' ((F2.out.trans (Fr.gr GG.out)).trans z2)
   clear SP2 z1 z2 GG
   go_wp2_with fail
   go_roundg k'
   case measure=>exact HK'.out
   case rel=>exact ⟨c+1,_,_,r2,by go_num,by have:=HK'.out;omega,G3,RN3,T3,F3⟩
end Go.Proofs.YtecnfgikbmcgoaaGreat
namespace Go.Proofs.YtecnfgikbmcgoaaGreat
open Go.RowKit
set_option maxRecDepth 100000 in
set_option maxHeartbeats 4000000 in
theorem rStep_none (A:Nat→Prop) (C:Rc) (T:Tc) (R:Nat→Rl) (w:World) (cs:List (Pc (List Atr))) (s:Ts) (a b:Int) (hT:Rw A C T R w cs s) (hn:∀ x y:Nat,(x:Int)=a→(y:Int)=b→T.adj x y=true→s.q x y=[]) (hm:Sm T s) :
  Calls Tryz.prog 65 #[.pointer (some ⟨C.TB,0,none⟩),.int .i64 a,.int .i64 b] w fun e w'=>e = .returned (.int .i64 5)∧Gr w w':=by
 obtain ⟨ads,Xs,lv,Ls,cv,rc,rt,hnb,rv,hcs⟩:=hT
 have hn64:=rv.n64 (by rw [← hnb];exact rt.b.nb8)
 obtain ⟨la,lc,rfl⟩:=rt.lshape
 have HNO:Hid (∀ j,j<Ls.length→((lnat Ls j).fr:Int)=a→((lnat Ls j).to:Int)=b→(lnat Ls j).q.length=0):=fun j hj h1 h2=>by
  have e:=alat rv.lk hj
  obtain ⟨_,h3,_,_,h5,_⟩:=linksOf_at e
  have:=hn _ _ h1 h2 h3
  have h6:=congrArg List.length h5
  simp only [Rln.av,List.length_map] at h6
  rw [h6,this];rfl
 have HQL:=Hid.mk' (rv.qlen hm)
 have HRT:=Hid.mk' rt
 have t1:=rt.c1
 clear rt rv hcs hn hm
 go_enter Tryz.func65,Tryz.ntmps65
 go_wp2_with fail
 go_loopw [7] (fun i wr=>∃ q:Nat,q≤Ls.length∧i = .int .i64 q∧Hid (Gr w wr)) (fun i _=>Ls.length - (intOf i).toNat)
 case atStart=>exact ⟨0,Nat.zero_le _,rfl,Gr.refl _⟩
 case round =>
  clear t1
  obtain ⟨q,hqk,rfl,G⟩:=hrel
  have t1:=(HRT.out.gr G.out).c1
  by_cases hql:q<Ls.length
  ·obtain ⟨g,off,rfl,hg,c0,c1,c2,c3⟩:=(HRT.out.gr G.out).l.lk.rowAt.lnk (j:=q) hql
   have hz:=HNO.out q hql
   have hq1:=(HQL.out _ (lnat_mem hql)).1
   clear HNO
   generalize lnat Ls q=l at *
   by_cases e1:(l.fr:Int)=a
   ·by_cases e2:(l.to:Int)=b
    ·rw [e1] at c0
     rw [e2] at c1
     rw [hz e1 e2] at c2
     clear hz e1 e2
     go_wp2_with fail
     all_goals exact ⟨⟨q+1,hql,by simp,G⟩,measM_dec _ _ hql⟩
    ·have e3:((l.to:Int)==b)=false:=by simpa using e2
     rw [e1] at c0
     clear hz e1 e2
     go_wp2_with fail
     all_goals exact ⟨⟨q+1,hql,by simp,G⟩,measM_dec _ _ hql⟩
   ·have e3:((l.fr:Int)==a)=false:=by simpa using e1
    clear hz e1
    go_wp2_with fail
    all_goals exact ⟨⟨q+1,hql,by simp,G⟩,measM_dec _ _ hql⟩
  ·have hqe:q=Ls.length:=by omega
   subst hqe
   go_wp2_with fail
   go_ret
   exact ⟨rfl,G.out⟩
end Go.Proofs.YtecnfgikbmcgoaaGreat
