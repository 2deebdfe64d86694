import Derived.Test.YtecnfgikbmcgoaaGreatG31
import Derived.Test.YtecnfgikbmcgoaaGreatG3
namespace Go.Proofs.YtecnfgikbmcgoaaGreat
open Go.RowKit
structure Sx (w wr:World) (base LB:Nat) (ve vew vf vw:Value) (Es:List EE) (Fs:List FE) (i k:Nat):Prop where
 le:base≤w.heap.size
 kp:Kp tsS base w wr
 box:wr.heap[LB]? = some (.cells #[ve,vew,vf,vw] 152 (0,0))
 oe:∀ j,i≤j→j<Es.length→wr.heap[(ee Es j).g]? = some (.cells (acells (outA (ee Es j).f)).toArray 74 (0,0))
 of:∀ j,k≤j→j<Fs.length→wr.heap[(fe Fs j).g]? = some (.cells (wcells (outW (fe Fs j).f)).toArray 76 (0,0))
 lowe:∀ j,j<Es.length→base≤(ee Es j).g
 lowf:∀ j,j<Fs.length→base≤(fe Fs j).g
 nde:(Es.map EE.g).Nodup
 ndf:(Fs.map FE.g).Nodup
 kq:∀ x,x<w.heap.size→x≠LB→(∀ j,j<Es.length→x≠(ee Es j).g)→(∀ j,j<Fs.length→x≠(fe Fs j).g)→wr.heap[x]? = w.heap[x]?
theorem Sx.sz {w wr:World} {base LB:Nat} {ve vew vf vw:Value} {Es:List EE} {Fs:List FE} {i k:Nat} (h:Sx w wr base LB ve vew vf vw Es Fs i k):base≤wr.heap.size:=Nat.le_trans h.le h.kp.size
theorem Sx.gr {w wr w':World} {base LB:Nat} {ve vew vf vw:Value} {Es:List EE} {Fs:List FE} {i k:Nat} (h:Sx w wr base LB ve vew vf vw Es Fs i k) (g:Gr wr w'):Sx w w' base LB ve vew vf vw Es Fs i k :=
 ⟨h.le,h.kp.trans (Kp.gr g h.sz),blk_gr g h.box,fun j a b=>blk_gr g (h.oe j a b),fun j a b=>blk_gr g (h.of j a b),h.lowe,h.lowf,h.nde,h.ndf,fun x hx a b c=>(g.block x (Nat.lt_of_lt_of_le hx h.kp.size)).trans (h.kq x hx a b c)⟩
theorem Sx.weakF {w wr:World} {base LB:Nat} {ve vew vf vw:Value} {Es:List EE} {Fs:List FE} {i k:Nat} (h:Sx w wr base LB ve vew vf vw Es Fs i k):Sx w wr base LB ve vew vf vw Es Fs i (k+1) :=
 ⟨h.le,h.kp,h.box,h.oe,fun j a b=>h.of j (by omega) b,h.lowe,h.lowf,h.nde,h.ndf,h.kq⟩
theorem Sx.weakE {w wr:World} {base LB:Nat} {ve vew vf vw:Value} {Es:List EE} {Fs:List FE} {i k:Nat} (h:Sx w wr base LB ve vew vf vw Es Fs i k):Sx w wr base LB ve vew vf vw Es Fs (i+1) k :=
 ⟨h.le,h.kp,h.box,fun j a b=>h.oe j (by omega) b,h.of,h.lowe,h.lowf,h.nde,h.ndf,h.kq⟩
theorem blk_ne {w:World} {i k:Nat} {cs cs':Array Value} {t t':TypeId} {fr fr':Nat × Nat} (h:w.heap[i]? = some (.cells cs t fr)) (h':w.heap[k]? = some (.cells cs' t' fr')) (hn:t≠t'):i≠k:=by
 intro he;subst he;rw [h] at h';injection h' with h';injection h' with _ h';exact hn h'
theorem Sx.setF {w wr:World} {base LB:Nat} {ve vew vf vw:Value} {Es:List EE} {Fs:List FE} {i k q:Nat} (h:Sx w wr base LB ve vew vf vw Es Fs i (k+1)) (hk:k<Fs.length) (r:∃ cs,wr.heap[(fe Fs k).g]? = some (.cells cs 76 (0,0))) (u:Value) :
  Sx w (wr.setCell ⟨(fe Fs k).g,q,none⟩ u) base LB ve vew vf vw Es Fs i (k+1):=by
 obtain ⟨cs,hc⟩:=r
 exact ⟨h.le,h.kp.set hc (by decide) (h.lowf k hk) u,blk_set h.box (p:=⟨(fe Fs k).g,q,none⟩) (blk_ne h.box hc (by decide)) u,
  fun j a b=>blk_set (h.oe j a b) (p:=⟨(fe Fs k).g,q,none⟩) (blk_ne (h.oe j a b) hc (by decide)) u,fun j a b=>blk_set (h.of j a b) (p:=⟨(fe Fs k).g,q,none⟩) (fe_ne h.ndf b hk (by omega)) u,h.lowe,h.lowf,h.nde,h.ndf,fun x hx a b c=>(Below.heap_setCell wr ⟨(fe Fs k).g,q,none⟩ u x (c k hk)).trans (h.kq x hx a b c)⟩
theorem Sx.setE {w wr:World} {base LB:Nat} {ve vew vf vw:Value} {Es:List EE} {Fs:List FE} {i k q:Nat} (h:Sx w wr base LB ve vew vf vw Es Fs (i+1) k) (hk:i<Es.length) (r:∃ cs,wr.heap[(ee Es i).g]? = some (.cells cs 74 (0,0))) (u:Value) :
  Sx w (wr.setCell ⟨(ee Es i).g,q,none⟩ u) base LB ve vew vf vw Es Fs (i+1) k:=by
 obtain ⟨cs,hc⟩:=r
 exact ⟨h.le,h.kp.set hc (by decide) (h.lowe i hk) u,blk_set h.box (p:=⟨(ee Es i).g,q,none⟩) (blk_ne h.box hc (by decide)) u,
  fun j a b=>blk_set (h.oe j a b) (p:=⟨(ee Es i).g,q,none⟩) (ee_ne h.nde b hk (by omega)) u,fun j a b=>blk_set (h.of j a b) (p:=⟨(ee Es i).g,q,none⟩) (blk_ne (h.of j a b) hc (by decide)) u,h.lowe,h.lowf,h.nde,h.ndf,fun x hx a b c=>(Below.heap_setCell wr ⟨(ee Es i).g,q,none⟩ u x (b i hk)).trans (h.kq x hx a b c)⟩
def RoF (wr:World) (e:FE) (i:Nat):Prop:=∃ cs:Array Value,wr.heap[e.g]? = some (.cells cs 76 (0,0))∧cs.size=(e.f.length+8)*5 ∧ ∀ j,i*5≤j→cs[j]? = (wcells (outW e.f))[j]?
theorem Sx.rowF {w wr:World} {base LB:Nat} {ve vew vf vw:Value} {Es:List EE} {Fs:List FE} {i k:Nat} (h:Sx w wr base LB ve vew vf vw Es Fs i k) (hk:k<Fs.length):RoF wr (fe Fs k) 0 :=
 ⟨_,h.of k (Nat.le_refl k) hk,by rw [List.size_toArray,wcells_len5,outW_len],fun j _=>by simp⟩
theorem RoF.gr {wr w':World} {e:FE} {i:Nat} (h:RoF wr e i) (g:Gr wr w'):RoF w' e i:=by
 obtain ⟨cs,h1,h2⟩:=h
 exact ⟨cs,blk_gr g h1,h2⟩
theorem Sx.setF5 {w wr:World} {base LB:Nat} {ve vew vf vw:Value} {Es:List EE} {Fs:List FE} {x k i q:Nat} (h:Sx w wr base LB ve vew vf vw Es Fs x (k+1)) (hk:k<Fs.length) (r:RoF wr (fe Fs k) q) (a b c d e:Value) :
  Sx w (over5 wr (fe Fs k).g i a b c d e) base LB ve vew vf vw Es Fs x (k+1):=by
 obtain ⟨cs,hc,_⟩:=r
 have r0:∃ cs,wr.heap[(fe Fs k).g]? = some (.cells cs 76 (0,0)):=⟨cs,hc⟩
 have r1:=set_some (i:=i) r0 a
 have r2:=set_some (i:=i+1) r1 b
 have r3:=set_some (i:=i+1+1) r2 c
 have r4:=set_some (i:=i+1+1+1) r3 d
 exact ((((h.setF hk r0 a).setF hk r1 b).setF hk r2 c).setF hk r3 d).setF hk r4 e
theorem RoF.set5 {wr:World} {x:FE} {i:Nat} (h:RoF wr x i) (a b c d e:Value):RoF (over5 wr x.g (i*5) a b c d e) x (i+1):=by
 obtain ⟨cs,h1,h2,h3⟩:=h
 refine ⟨_,blk_set_same (blk_set_same (blk_set_same (blk_set_same (blk_set_same h1 a) b) c) d) e,by simpa using h2,fun j hj=>?_⟩
 rw [← h3 j (by omega)]
 simp only [Array.getElem?_setIfInBounds]
 rw [if_neg (by omega),if_neg (by omega),if_neg (by omega),if_neg (by omega),if_neg (by omega)]
theorem RoF.cells {wr:World} {e:FE} {i:Nat} (h:RoF wr e i) (hi:i<e.f.length+8) :
  wr.cell? ⟨e.g,i*5,none⟩=some (.string (wat (outW e.f) i).a)∧wr.cell? ⟨e.g,i*5+1,none⟩=some (.int .i64 (wat (outW e.f) i).y) ∧
  wr.cell? ⟨e.g,i*5+1+1,none⟩=some (.int .i64 (wat (outW e.f) i).k)∧wr.cell? ⟨e.g,i*5+1+1+1,none⟩=some (.int .i64 (wat (outW e.f) i).n) ∧
  wr.cell? ⟨e.g,i*5+1+1+1+1,none⟩=some (.string (wat (outW e.f) i).s):=by
 obtain ⟨cs,h1,h2,h3⟩:=h
 obtain ⟨a1,a2,a3,a4,a5⟩:=wcells_at (outW e.f) i (by rw [outW_len];exact hi)
 rw [cell_of_row _ _ _ _ _ _ h1,cell_of_row _ _ _ _ _ _ h1,cell_of_row _ _ _ _ _ _ h1,cell_of_row _ _ _ _ _ _ h1,cell_of_row _ _ _ _ _ _ h1]
 rw [h3 _ (by omega),h3 _ (by omega),h3 _ (by omega),h3 _ (by omega),h3 _ (by omega)]
 exact ⟨a1,a2,a3,a4,a5⟩
theorem RoF.frozen {wr:World} {e:FE} {i:Nat} (h:RoF wr e i) (j:Nat):wr.frozen? ⟨e.g,j,none⟩=false:=by
 obtain ⟨cs,h1,_⟩:=h
 exact frozen_of_row _ _ _ _ _ h1
def over4 (wr:World) (g j:Nat) (a b c d:Value):World:=(((wr.setCell ⟨g,j,none⟩ a).setCell ⟨g,j+1,none⟩ b).setCell ⟨g,j+1+1,none⟩ c).setCell ⟨g,j+1+1+1,none⟩ d
def box4 (w:World) (g:Nat) (a b c d:Value):World:=(((w.setCell ⟨g,0,none⟩ a).setCell ⟨g,1,none⟩ b).setCell ⟨g,2,none⟩ c).setCell ⟨g,3,none⟩ d
theorem box4_blk {w:World} {g:Nat} {t:TypeId} {x0 x1 x2 x3:Value} (h:w.heap[g]? = some (.cells #[x0,x1,x2,x3] t (0,0))) (a b c d:Value):(box4 w g a b c d).heap[g]? = some (.cells #[a,b,c,d] t (0,0)) :=
 blk_set_same (j:=3) (blk_set_same (j:=2) (blk_set_same (j:=1) (blk_set_same (j:=0) h a) b) c) d
def ov4 (wr:World) (g j:Nat) (a b c d:Value):World:=((((wr.setCell ⟨g,j,none⟩ a).setCell ⟨g,j+1,none⟩ b).setCell ⟨g,j+2,none⟩ c).setCell ⟨g,j+3,none⟩ d).drew
theorem ov4_eq (wr:World) (g j:Nat) (a b c d:Value):ov4 wr g j a b c d=(over4 wr g j a b c d).drew:=rfl
def RoE (wr:World) (e:EE) (i:Nat):Prop:=∃ cs:Array Value,wr.heap[e.g]? = some (.cells cs 74 (0,0))∧cs.size=(e.f.length+8)*4 ∧ ∀ j,i*4≤j→cs[j]? = (acells (outA e.f))[j]?
theorem Sx.rowE {w wr:World} {base LB:Nat} {ve vew vf vw:Value} {Es:List EE} {Fs:List FE} {i k:Nat} (h:Sx w wr base LB ve vew vf vw Es Fs i k) (hk:i<Es.length):RoE wr (ee Es i) 0 :=
 ⟨_,h.oe i (Nat.le_refl i) hk,by rw [List.size_toArray,acells_len4,outA_len],fun j _=>by simp⟩
theorem RoE.gr {wr w':World} {e:EE} {i:Nat} (h:RoE wr e i) (g:Gr wr w'):RoE w' e i:=by
 obtain ⟨cs,h1,h2⟩:=h
 exact ⟨cs,blk_gr g h1,h2⟩
theorem Sx.setE4 {w wr:World} {base LB:Nat} {ve vew vf vw:Value} {Es:List EE} {Fs:List FE} {x i p q:Nat} (h:Sx w wr base LB ve vew vf vw Es Fs (i+1) x) (hk:i<Es.length) (r:RoE wr (ee Es i) q) (a b c d:Value) :
  Sx w (over4 wr (ee Es i).g p a b c d) base LB ve vew vf vw Es Fs (i+1) x:=by
 obtain ⟨cs,hc,_⟩:=r
 have r0:∃ cs,wr.heap[(ee Es i).g]? = some (.cells cs 74 (0,0)):=⟨cs,hc⟩
 have r1:=set_some (i:=p) r0 a
 have r2:=set_some (i:=p+1) r1 b
 have r3:=set_some (i:=p+1+1) r2 c
 exact (((h.setE hk r0 a).setE hk r1 b).setE hk r2 c).setE hk r3 d
theorem RoE.set4 {wr:World} {x:EE} {i:Nat} (h:RoE wr x i) (a b c d:Value):RoE (over4 wr x.g (i*4) a b c d) x (i+1):=by
 obtain ⟨cs,h1,h2,h3⟩:=h
 refine ⟨_,blk_set_same (blk_set_same (blk_set_same (blk_set_same h1 a) b) c) d,by simpa using h2,fun j hj=>?_⟩
 rw [← h3 j (by omega)]
 simp only [Array.getElem?_setIfInBounds]
 rw [if_neg (by omega),if_neg (by omega),if_neg (by omega),if_neg (by omega)]
theorem RoE.cells {wr:World} {e:EE} {i:Nat} (h:RoE wr e i) (hi:i<e.f.length+8) :
  wr.cell? ⟨e.g,i*4,none⟩=some (.string (aat (outA e.f) i).a)∧wr.cell? ⟨e.g,i*4+1,none⟩=some (.int .i64 (aat (outA e.f) i).k) ∧
  wr.cell? ⟨e.g,i*4+1+1,none⟩=some (.int .i64 (aat (outA e.f) i).n)∧wr.cell? ⟨e.g,i*4+1+1+1,none⟩=some (.string (aat (outA e.f) i).s):=by
 obtain ⟨cs,h1,h2,h3⟩:=h
 obtain ⟨a1,a2,a3,a4⟩:=acells_at (outA e.f) i (by rw [outA_len];exact hi)
 rw [cell_of_row _ _ _ _ _ _ h1,cell_of_row _ _ _ _ _ _ h1,cell_of_row _ _ _ _ _ _ h1,cell_of_row _ _ _ _ _ _ h1]
 rw [h3 _ (by omega),h3 _ (by omega),h3 _ (by omega),h3 _ (by omega)]
 exact ⟨a1,a2,a3,a4⟩
theorem RoE.frozen {wr:World} {e:EE} {i:Nat} (h:RoE wr e i) (j:Nat):wr.frozen? ⟨e.g,j,none⟩=false:=by
 obtain ⟨cs,h1,_⟩:=h
 exact frozen_of_row _ _ _ _ _ h1
set_option maxRecDepth 100000 in
set_option maxHeartbeats 8000000 in
theorem still_fr (base LB:Nat) (ve vew vf vw:Value) (Es:List EE) (Fs:List FE) (w:World) (hm:Es.length≤1099511627776) (hn:Fs.length≤1099511627776) (hlen:∀ e∈Es,e.f.length≤2932031007402) (hlenf:∀ e∈Fs,e.f.length≤2513169434845) (hE:LnE w base LB ve vew vf vw Es) (hL:LnF w base LB ve vew vf vw Fs) :
  Calls Tryz.prog 32 #[.pointer (some ⟨LB,0,none⟩)] w fun e w'=>e = .returned (.bool true)∧Kp tsS base w w' ∧
   w'.heap[LB]? = some (.cells #[.slice none 0 0,.slice none 0 0,.slice none 0 0,.slice none 0 0] 152 (0,0)) ∧ ∀ x,x<w.heap.size→x≠LB→(∀ e∈Es,x≠e.g)→(∀ e∈Fs,x≠e.g)→w'.heap[x]? = w.heap[x]? := by
 obtain ⟨ea,ek,rfl,hea⟩:=owns_shape hE.ownf
 obtain ⟨ewa,ewk,rfl,hewa⟩:=owns_shape hE.ownw
 obtain ⟨fa,fk,rfl,hfa⟩:=owns_shape hL.ownf
 obtain ⟨wa,wk,rfl,hwa⟩:=owns_shape hL.ownw
 have HLE:=Hid.mk' hE
 have HLF:=Hid.mk' hL
 have S0:Hid (Sx w w base LB (.slice ea Es.length ek) (.slice ewa Es.length ewk) (.slice fa Fs.length fk) (.slice wa Fs.length wk) Es Fs 0 0):=⟨hL.le,Kp.refl _ _ _,hL.box,fun j _ hj=>(hE.outs _ (ee_mem hj)).2,fun j _ hj=>(hL.outs _ (fe_mem hj)).2,fun j hj=>(hE.outs _ (ee_mem hj)).1,fun j hj=>(hL.outs _ (fe_mem hj)).1,hE.nodup,hL.nodup,fun _ _ _ _ _=>rfl⟩
 have HAE:Hid (∀ e∈Es,EvK base w e.ad e.f):=fun e he=>(hE.args e he).2.1
 have HAF:Hid (∀ e∈Fs,FiK base w e.ad e.f):=fun e he=>(hL.args e he).2.1
 have HNE:Hid (∀ e∈Es,e.f.length≤2932031007402):=hlen
 have HNF:Hid (∀ e∈Fs,e.f.length≤2513169434845):=hlenf
 have LBB:Hid (base≤LB):=hL.lb
 clear hL hE hlen hlenf
 go_enter Tryz.func32,Tryz.ntmps32
 go_wp2_with fail
 go_loopw [3,4] (fun ok i0 w1=>∃ i:Nat,i≤Es.length∧ok = .bool true∧i0 = .int .i64 i∧Hid (Sx w w1 base LB (.slice ea Es.length ek) (.slice ewa Es.length ewk) (.slice fa Fs.length fk) (.slice wa Fs.length wk) Es Fs i 0)) (fun _ i0 _=>Es.length - (intOf i0).toNat)
 case atStart=>exact ⟨0,Nat.zero_le _,rfl,rfl,S0⟩
 case round =>
  obtain ⟨i,hi,rfl,rfl,S⟩:=hrel
  have y2:wr.cell? ⟨LB,0,none⟩=some (.slice ea Es.length ek):=by rw [cell_of_row _ _ _ _ _ _ S.out.box];rfl
  have y3:wr.cell? ⟨LB,1,none⟩=some (.slice ewa Es.length ewk):=by rw [cell_of_row _ _ _ _ _ _ S.out.box];rfl
  by_cases hlt:i<Es.length
  ·obtain ⟨eab,rfl⟩:=hea (by omega)
   obtain ⟨eb,rfl⟩:=hewa (by omega)
   have z2:wr.cell? ⟨eab,i,none⟩=some (ee Es i).fc:=by rw [World.ownsRow.cellAt (S.out.kp.owns HLE.out.ownf (by decide)) i (by omega),List.getElem?_map,ee_get hlt];rfl
   unfold EE.fc at z2
   have z3:wr.cell? ⟨eb,i,none⟩=some (ee Es i).wc:=by rw [World.ownsRow.cellAt (S.out.kp.owns HLE.out.ownw (by decide)) i (by omega),List.getElem?_map,ee_get hlt];rfl
   unfold EE.wc at z3
   have R0:=Hid.mk' (S.out.rowE hlt)
   have S1:=Hid.mk' S.out.weakE
   have hfl:=HNE.out _ (ee_mem hlt)
   go_wp2_with fail
   go_loopw [3,6] (fun ok i0 w2=>∃ q:Nat,q≤(ee Es i).f.length+8∧ok = .bool true∧i0 = .int .i64 q∧Hid (Sx w w2 base LB (.slice (some ⟨eab,0,none⟩) Es.length ek) (.slice (some ⟨eb,0,none⟩) Es.length ewk) (.slice fa Fs.length fk) (.slice wa Fs.length wk) Es Fs (i+1) 0)∧Hid (RoE w2 (ee Es i) q)) (fun _ i0 _=>(ee Es i).f.length+8 - (intOf i0).toNat)
   case atStart=>exact ⟨0,Nat.zero_le _,rfl,rfl,S1,R0⟩
   case round =>
    obtain ⟨q,hq,rfl,rfl,S2,R2⟩:=hrel
    clear y2 y3 z2 z3
    have y3:wr.cell? ⟨LB,1,none⟩=some (.slice (some ⟨eb,0,none⟩) Es.length ewk):=by rw [cell_of_row _ _ _ _ _ _ S2.out.box];rfl
    have OW:=Hid.mk' (S2.out.kp.owns HLE.out.ownw (by decide))
    have z3:wr.cell? ⟨eb,i,none⟩=some (ee Es i).wc:=by rw [World.ownsRow.cellAt OW.out i (by omega),List.getElem?_map,ee_get hlt];rfl
    unfold EE.wc at z3
    by_cases hql:q<(ee Es i).f.length+8
    ·obtain ⟨bb,off,hbb,h4,_,hat⟩:=(HAE.out _ (ee_mem hlt)).kp S2.out.kp (by decide)
     rw [hbb] at z3
     obtain ⟨c1,c2,c3,c4⟩:=R2.out.cells hql
     have f0:=R2.out.frozen (q*4)
     have f1:=R2.out.frozen (q*4+1)
     have f2:=R2.out.frozen (q*4+1+1)
     have f3:=R2.out.frozen (q*4+1+1+1)
     have h1:LB<wr.heap.size:=blk_lt S2.out.box
     have h2:eb<wr.heap.size:=owns_lt OW.out
     have h3:(ee Es i).g<wr.heap.size:=by
      obtain ⟨cs,hc,_⟩:=R2.out
      exact blk_lt hc
     have hne:(ee Es i).g≠wr.heap.size:=by omega
     have hne':wr.heap.size≠(ee Es i).g:=by omega
     by_cases hqf:q<(ee Es i).f.length
     ·obtain ⟨d1,d2,d3,d4⟩:=hat q hqf
      rw [outA_in hqf] at c1 c2 c3 c4
      clear hat
      go_wp2_with fail
      refine (lawAttr_any _ _ _ _ _).mono ?_
      rintro e w2 ⟨rfl,hb2⟩
      have g2:Gr wr w2:=Gr.call ((Gr.refl wr).alloc _) hb2
      have N2:Hid (w2.heap[wr.heap.size]? = some (.cells #[.string ⟨#[115,112,97,114,101]⟩,.int .i64 0,.int .i64 0,.string ⟨#[]⟩] 74 (0,0))):=blk_gr hb2 (heap_alloc_new _ _)
      have gz:Gr wr (box4 w2 wr.heap.size (.string (aat (ee Es i).f q).a) (.int .i64 (aat (ee Es i).f q).k) (.int .i64 (aat (ee Es i).f q).n) (.string (aat (ee Es i).f q).s)):=gr_set4 (k:=0) (Nat.le_refl _) g2 _ _ _ _
      have NZ:Hid ((box4 w2 wr.heap.size (.string (aat (ee Es i).f q).a) (.int .i64 (aat (ee Es i).f q).k) (.int .i64 (aat (ee Es i).f q).n) (.string (aat (ee Es i).f q).s)).heap[wr.heap.size]? = some (.cells #[.string (aat (ee Es i).f q).a,.int .i64 (aat (ee Es i).f q).k,.int .i64 (aat (ee Es i).f q).n,.string (aat (ee Es i).f q).s] 74 (0,0))):=box4_blk N2.out _ _ _ _
      have n0:w2.cell? ⟨wr.heap.size,0,none⟩=some (.string ⟨#[115,112,97,114,101]⟩):=by rw [cell_of_row _ _ _ _ _ _ N2.out];rfl
      have n1:w2.cell? ⟨wr.heap.size,1,none⟩=some (.int .i64 0):=by rw [cell_of_row _ _ _ _ _ _ N2.out];rfl
      have n2:w2.cell? ⟨wr.heap.size,2,none⟩=some (.int .i64 0):=by rw [cell_of_row _ _ _ _ _ _ N2.out];rfl
      have n3:w2.cell? ⟨wr.heap.size,3,none⟩=some (.string ⟨#[]⟩):=by rw [cell_of_row _ _ _ _ _ _ N2.out];rfl
      have m0:w2.frozen? ⟨wr.heap.size,0,none⟩=false:=frozen_of_row _ _ _ _ _ N2.out
      have m1:w2.frozen? ⟨wr.heap.size,1,none⟩=false:=frozen_of_row _ _ _ _ _ N2.out
      have m2:w2.frozen? ⟨wr.heap.size,2,none⟩=false:=frozen_of_row _ _ _ _ _ N2.out
      have m3:w2.frozen? ⟨wr.heap.size,3,none⟩=false:=frozen_of_row _ _ _ _ _ N2.out
      clear c1 c2 c3 c4 f0 f1 f2 f3 d1 d2 d3 d4 hb2 g2 y3 z3 h1 h2 h3 h4
      go_wp2_with fail
      obtain ⟨wz,hz⟩:∃ wz,wz=box4 w2 wr.heap.size (.string (aat (ee Es i).f q).a) (.int .i64 (aat (ee Es i).f q).k) (.int .i64 (aat (ee Es i).f q).n) (.string (aat (ee Es i).f q).s):=⟨_,rfl⟩
      rw [← hz] at gz NZ
      unfold box4 at hz
      rw [← hz]
      clear n0 n1 n2 n3 m0 m1 m2 m3 N2 hz
      have SZ:=Hid.mk' (S2.out.gr gz)
      have RZ:=Hid.mk' (R2.out.gr gz)
      clear S2 R2 gz
      have S4:Hid (Sx w (ov4 wz (ee Es i).g (q*4) (.string ⟨#[97]⟩) (.int .i64 1) (.int .i64 0) (.string ⟨#[]⟩)) base LB (.slice (some ⟨eab,0,none⟩) Es.length ek) (.slice (some ⟨eb,0,none⟩) Es.length ewk) (.slice fa Fs.length fk) (.slice wa Fs.length wk) Es Fs (i+1) 0):=by rw [ov4_eq];exact (SZ.out.setE4 hlt RZ.out _ _ _ _).gr (Gr.refl _).drew
      have R4:Hid (RoE (ov4 wz (ee Es i).g (q*4) (.string ⟨#[97]⟩) (.int .i64 1) (.int .i64 0) (.string ⟨#[]⟩)) (ee Es i) (q+1)):=by rw [ov4_eq];exact (RZ.out.set4 _ _ _ _).gr (Gr.refl _).drew
      obtain ⟨c1,c2,c3,c4⟩:=RZ.out.cells hql
      rw [outA_in hqf] at c1 c2 c3 c4
      have n0:wz.cell? ⟨wr.heap.size,0,none⟩=some (.string (aat (ee Es i).f q).a):=by rw [cell_of_row _ _ _ _ _ _ NZ.out];rfl
      have n1:wz.cell? ⟨wr.heap.size,1,none⟩=some (.int .i64 (aat (ee Es i).f q).k):=by rw [cell_of_row _ _ _ _ _ _ NZ.out];rfl
      have n2:wz.cell? ⟨wr.heap.size,2,none⟩=some (.int .i64 (aat (ee Es i).f q).n):=by rw [cell_of_row _ _ _ _ _ _ NZ.out];rfl
      have n3:wz.cell? ⟨wr.heap.size,3,none⟩=some (.string (aat (ee Es i).f q).s):=by rw [cell_of_row _ _ _ _ _ _ NZ.out];rfl
      go_region_held3 (fun w'=>w'.cell? ⟨(ee Es i).g,q*4,none⟩=some (.string (aat (ee Es i).f q).a)∧w'.cell? ⟨(ee Es i).g,q*4+1,none⟩=some (.int .i64 (aat (ee Es i).f q).k)∧w'.cell? ⟨(ee Es i).g,q*4+1+1,none⟩=some (.int .i64 (aat (ee Es i).f q).n)∧w'.cell? ⟨(ee Es i).g,q*4+1+1+1,none⟩=some (.string (aat (ee Es i).f q).s)∧w'.cell? ⟨wr.heap.size,0,none⟩=some (.string (aat (ee Es i).f q).a)∧w'.cell? ⟨wr.heap.size,1,none⟩=some (.int .i64 (aat (ee Es i).f q).k)∧w'.cell? ⟨wr.heap.size,2,none⟩=some (.int .i64 (aat (ee Es i).f q).n)∧w'.cell? ⟨wr.heap.size,3,none⟩=some (.string (aat (ee Es i).f q).s))
       (simp [go_sem, *]) (fail)
      clear n0 n1 n2 n3
      have f0:=RZ.out.frozen (q*4)
      have f1:=RZ.out.frozen (q*4+1)
      have f2:=RZ.out.frozen (q*4+1+1)
      have f3:=RZ.out.frozen (q*4+1+1+1)
      go_wp2_with fail
      unfold ov4 at S4 R4
      refine ⟨⟨q+1,by omega,rfl,by go_num,S4,R4⟩,?_⟩
      simp [intOf];omega
     ·clear hat
      go_wp2_with fail
      obtain ⟨wz,hz⟩:∃ wz,wz=wr.alloc (.cells #[.string ⟨#[115,112,97,114,101]⟩,.int .i64 0,.int .i64 0,.string ⟨#[]⟩] 74):=⟨_,rfl⟩
      have gz:Gr wr wz:=by rw [hz];exact (Gr.refl wr).alloc _
      have NZ:Hid (wz.heap[wr.heap.size]? = some (.cells #[.string ⟨#[115,112,97,114,101]⟩,.int .i64 0,.int .i64 0,.string ⟨#[]⟩] 74 (0,0))):=by
       show _=_
       rw [hz];exact heap_alloc_new _ _
      rw [← hz]
      clear hz c1 c2 c3 c4 f0 f1 f2 f3 y3 z3 h1 h2 h3 h4
      have SZ:=Hid.mk' (S2.out.gr gz)
      have RZ:=Hid.mk' (R2.out.gr gz)
      clear S2 R2 gz
      have S4:Hid (Sx w (ov4 wz (ee Es i).g (q*4) (.string ⟨#[97]⟩) (.int .i64 1) (.int .i64 0) (.string ⟨#[]⟩)) base LB (.slice (some ⟨eab,0,none⟩) Es.length ek) (.slice (some ⟨eb,0,none⟩) Es.length ewk) (.slice fa Fs.length fk) (.slice wa Fs.length wk) Es Fs (i+1) 0):=by rw [ov4_eq];exact (SZ.out.setE4 hlt RZ.out _ _ _ _).gr (Gr.refl _).drew
      have R4:Hid (RoE (ov4 wz (ee Es i).g (q*4) (.string ⟨#[97]⟩) (.int .i64 1) (.int .i64 0) (.string ⟨#[]⟩)) (ee Es i) (q+1)):=by rw [ov4_eq];exact (RZ.out.set4 _ _ _ _).gr (Gr.refl _).drew
      obtain ⟨c1,c2,c3,c4⟩:=RZ.out.cells hql
      rw [outA_past hqf hql] at c1 c2 c3 c4;unfold spareA at c1 c2 c3 c4
      have n0:wz.cell? ⟨wr.heap.size,0,none⟩=some (.string ⟨#[115,112,97,114,101]⟩):=by rw [cell_of_row _ _ _ _ _ _ NZ.out];rfl
      have n1:wz.cell? ⟨wr.heap.size,1,none⟩=some (.int .i64 0):=by rw [cell_of_row _ _ _ _ _ _ NZ.out];rfl
      have n2:wz.cell? ⟨wr.heap.size,2,none⟩=some (.int .i64 0):=by rw [cell_of_row _ _ _ _ _ _ NZ.out];rfl
      have n3:wz.cell? ⟨wr.heap.size,3,none⟩=some (.string ⟨#[]⟩):=by rw [cell_of_row _ _ _ _ _ _ NZ.out];rfl
      go_region_held3 (fun w'=>w'.cell? ⟨(ee Es i).g,q*4,none⟩=some (.string ⟨#[115,112,97,114,101]⟩)∧w'.cell? ⟨(ee Es i).g,q*4+1,none⟩=some (.int .i64 0)∧w'.cell? ⟨(ee Es i).g,q*4+1+1,none⟩=some (.int .i64 0)∧w'.cell? ⟨(ee Es i).g,q*4+1+1+1,none⟩=some (.string ⟨#[]⟩)∧w'.cell? ⟨wr.heap.size,0,none⟩=some (.string ⟨#[115,112,97,114,101]⟩)∧w'.cell? ⟨wr.heap.size,1,none⟩=some (.int .i64 0)∧w'.cell? ⟨wr.heap.size,2,none⟩=some (.int .i64 0)∧w'.cell? ⟨wr.heap.size,3,none⟩=some (.string ⟨#[]⟩))
       (simp [go_sem, *]) (fail)
      clear n0 n1 n2 n3
      have f0:=RZ.out.frozen (q*4)
      have f1:=RZ.out.frozen (q*4+1)
      have f2:=RZ.out.frozen (q*4+1+1)
      have f3:=RZ.out.frozen (q*4+1+1+1)
      go_wp2_with fail
      unfold ov4 at S4 R4
      refine ⟨⟨q+1,by omega,rfl,by go_num,S4,R4⟩,?_⟩
      simp [intOf];omega
    ·go_wp2_with fail
     go_roundw
     case rel=>exact ⟨i+1,by omega,rfl,by go_num,S2⟩
     case measure=>simp [intOf];omega
  ·clear y2 y3
   have y2:wr.cell? ⟨LB,0,none⟩=some (.slice ea Es.length ek):=by rw [cell_of_row _ _ _ _ _ _ S.out.box];rfl
   have y4:wr.cell? ⟨LB,2,none⟩=some (.slice fa Fs.length fk):=by rw [cell_of_row _ _ _ _ _ _ S.out.box];rfl
   go_wp2_with fail
   go_loopw [3,8] (fun ok k0 w1=>∃ k:Nat,k≤Fs.length∧ok = .bool true∧k0 = .int .i64 k∧Hid (Sx w w1 base LB (.slice ea Es.length ek) (.slice ewa Es.length ewk) (.slice fa Fs.length fk) (.slice wa Fs.length wk) Es Fs i k)) (fun _ k0 _=>Fs.length - (intOf k0).toNat)
   case atStart=>exact ⟨0,Nat.zero_le _,rfl,rfl,S⟩
   case round =>
    clear y2 y4 S
    obtain ⟨k,hk,rfl,rfl,S⟩:=hrel
    have y2:wr.cell? ⟨LB,2,none⟩=some (.slice fa Fs.length fk):=by rw [cell_of_row _ _ _ _ _ _ S.out.box];rfl
    have y3:wr.cell? ⟨LB,3,none⟩=some (.slice wa Fs.length wk):=by rw [cell_of_row _ _ _ _ _ _ S.out.box];rfl
    clear hlt
    by_cases hlt:k<Fs.length
    ·obtain ⟨fb,rfl⟩:=hfa (by omega)
     obtain ⟨wb,rfl⟩:=hwa (by omega)
     have z2:wr.cell? ⟨fb,k,none⟩=some (fe Fs k).fc:=by rw [World.ownsRow.cellAt (S.out.kp.owns HLF.out.ownf (by decide)) k (by omega),List.getElem?_map,fe_get hlt];rfl
     unfold FE.fc at z2
     have z3:wr.cell? ⟨wb,k,none⟩=some (fe Fs k).wc:=by rw [World.ownsRow.cellAt (S.out.kp.owns HLF.out.ownw (by decide)) k (by omega),List.getElem?_map,fe_get hlt];rfl
     unfold FE.wc at z3
     have R0:=Hid.mk' (S.out.rowF hlt)
     have S1:=Hid.mk' S.out.weakF
     have hfl:=HNF.out _ (fe_mem hlt)
     go_wp2_with fail
     go_loopw [3,10] (fun ok i0 w2=>∃ q:Nat,q≤(fe Fs k).f.length+8∧ok = .bool true∧i0 = .int .i64 q∧Hid (Sx w w2 base LB (.slice ea Es.length ek) (.slice ewa Es.length ewk) (.slice (some ⟨fb,0,none⟩) Fs.length fk) (.slice (some ⟨wb,0,none⟩) Fs.length wk) Es Fs i (k+1))∧Hid (RoF w2 (fe Fs k) q)) (fun _ i0 _=>(fe Fs k).f.length+8 - (intOf i0).toNat)
     case atStart=>exact ⟨0,Nat.zero_le _,rfl,rfl,S1,R0⟩
     case round =>
      obtain ⟨q,hq,rfl,rfl,S2,R2⟩:=hrel
      clear y2 y3 z2 z3
      have y3:wr.cell? ⟨LB,3,none⟩=some (.slice (some ⟨wb,0,none⟩) Fs.length wk):=by rw [cell_of_row _ _ _ _ _ _ S2.out.box];rfl
      have OW:=Hid.mk' (S2.out.kp.owns HLF.out.ownw (by decide))
      have z3:wr.cell? ⟨wb,k,none⟩=some (fe Fs k).wc:=by rw [World.ownsRow.cellAt OW.out k (by omega),List.getElem?_map,fe_get hlt];rfl
      unfold FE.wc at z3
      by_cases hql:q<(fe Fs k).f.length+8
      ·obtain ⟨bb,off,hbb,h4,_,hat⟩:=(HAF.out _ (fe_mem hlt)).kp S2.out.kp (by decide)
       rw [hbb] at z3
       obtain ⟨c1,c2,c3,c4,c5⟩:=R2.out.cells hql
       have f0:=R2.out.frozen (q*5)
       have f1:=R2.out.frozen (q*5+1)
       have f2:=R2.out.frozen (q*5+1+1)
       have f3:=R2.out.frozen (q*5+1+1+1)
       have f4:=R2.out.frozen (q*5+1+1+1+1)
       have h1:LB<wr.heap.size:=blk_lt S2.out.box
       have h2:wb<wr.heap.size:=owns_lt OW.out
       have h3:(fe Fs k).g<wr.heap.size:=by
        obtain ⟨cs,hc,_⟩:=R2.out
        exact blk_lt hc
       have hne:(fe Fs k).g≠wr.heap.size:=by omega
       have hne':wr.heap.size≠(fe Fs k).g:=by omega
       by_cases hqf:q<(fe Fs k).f.length
       ·obtain ⟨d1,d2,d3,d4,d5⟩:=hat q hqf
        rw [outW_in hqf] at c1 c2 c3 c4 c5
        clear hat
        go_wp2_with fail
        refine (lawWant_any _ _ _ _ _ _).mono ?_
        rintro e w2 ⟨rfl,hb2⟩
        have g2:Gr wr w2:=Gr.call ((Gr.refl wr).alloc _) hb2
        have N2:Hid (w2.heap[wr.heap.size]? = some (.cells #[.string ⟨#[115,112,97,114,101]⟩,.int .i64 0,.int .i64 0,.int .i64 0,.string ⟨#[]⟩] 76 (0,0))):=blk_gr hb2 (heap_alloc_new _ _)
        have gz:Gr wr (box5 w2 wr.heap.size (.string (wat (fe Fs k).f q).a) (.int .i64 (wat (fe Fs k).f q).y) (.int .i64 (wat (fe Fs k).f q).k) (.int .i64 (wat (fe Fs k).f q).n) (.string (wat (fe Fs k).f q).s)):=gr_set5 (k:=0) (Nat.le_refl _) g2 _ _ _ _ _
        have NZ:Hid ((box5 w2 wr.heap.size (.string (wat (fe Fs k).f q).a) (.int .i64 (wat (fe Fs k).f q).y) (.int .i64 (wat (fe Fs k).f q).k) (.int .i64 (wat (fe Fs k).f q).n) (.string (wat (fe Fs k).f q).s)).heap[wr.heap.size]? = some (.cells #[.string (wat (fe Fs k).f q).a,.int .i64 (wat (fe Fs k).f q).y,.int .i64 (wat (fe Fs k).f q).k,.int .i64 (wat (fe Fs k).f q).n,.string (wat (fe Fs k).f q).s] 76 (0,0))):=box5_blk N2.out _ _ _ _ _
        have n0:w2.cell? ⟨wr.heap.size,0,none⟩=some (.string ⟨#[115,112,97,114,101]⟩):=by rw [cell_of_row _ _ _ _ _ _ N2.out];rfl
        have n1:w2.cell? ⟨wr.heap.size,1,none⟩=some (.int .i64 0):=by rw [cell_of_row _ _ _ _ _ _ N2.out];rfl
        have n2:w2.cell? ⟨wr.heap.size,2,none⟩=some (.int .i64 0):=by rw [cell_of_row _ _ _ _ _ _ N2.out];rfl
        have n3:w2.cell? ⟨wr.heap.size,3,none⟩=some (.int .i64 0):=by rw [cell_of_row _ _ _ _ _ _ N2.out];rfl
        have n4:w2.cell? ⟨wr.heap.size,4,none⟩=some (.string ⟨#[]⟩):=by rw [cell_of_row _ _ _ _ _ _ N2.out];rfl
        have m0:w2.frozen? ⟨wr.heap.size,0,none⟩=false:=frozen_of_row _ _ _ _ _ N2.out
        have m1:w2.frozen? ⟨wr.heap.size,1,none⟩=false:=frozen_of_row _ _ _ _ _ N2.out
        have m2:w2.frozen? ⟨wr.heap.size,2,none⟩=false:=frozen_of_row _ _ _ _ _ N2.out
        have m3:w2.frozen? ⟨wr.heap.size,3,none⟩=false:=frozen_of_row _ _ _ _ _ N2.out
        have m4:w2.frozen? ⟨wr.heap.size,4,none⟩=false:=frozen_of_row _ _ _ _ _ N2.out
        clear c1 c2 c3 c4 c5 f0 f1 f2 f3 f4 d1 d2 d3 d4 d5 hb2 g2 y3 z3 h1 h2 h3 h4
        go_wp2_with fail
        obtain ⟨wz,hz⟩:∃ wz,wz=box5 w2 wr.heap.size (.string (wat (fe Fs k).f q).a) (.int .i64 (wat (fe Fs k).f q).y) (.int .i64 (wat (fe Fs k).f q).k) (.int .i64 (wat (fe Fs k).f q).n) (.string (wat (fe Fs k).f q).s):=⟨_,rfl⟩
        rw [← hz] at gz NZ
        unfold box5 at hz
        rw [← hz]
        clear n0 n1 n2 n3 n4 m0 m1 m2 m3 m4 N2 hz
        have SZ:=Hid.mk' (S2.out.gr gz)
        have RZ:=Hid.mk' (R2.out.gr gz)
        clear S2 R2 gz
        have S4:Hid (Sx w (ov5 wz (fe Fs k).g (q*5) (.string ⟨#[97]⟩) (.int .i64 1) (.int .i64 0) (.int .i64 0) (.string ⟨#[]⟩)) base LB (.slice ea Es.length ek) (.slice ewa Es.length ewk) (.slice (some ⟨fb,0,none⟩) Fs.length fk) (.slice (some ⟨wb,0,none⟩) Fs.length wk) Es Fs i (k+1)):=by rw [ov5_eq];exact (SZ.out.setF5 hlt RZ.out _ _ _ _ _).gr (Gr.refl _).drew
        have R4:Hid (RoF (ov5 wz (fe Fs k).g (q*5) (.string ⟨#[97]⟩) (.int .i64 1) (.int .i64 0) (.int .i64 0) (.string ⟨#[]⟩)) (fe Fs k) (q+1)):=by rw [ov5_eq];exact (RZ.out.set5 _ _ _ _ _).gr (Gr.refl _).drew
        obtain ⟨c1,c2,c3,c4,c5⟩:=RZ.out.cells hql
        rw [outW_in hqf] at c1 c2 c3 c4 c5
        have n0:wz.cell? ⟨wr.heap.size,0,none⟩=some (.string (wat (fe Fs k).f q).a):=by rw [cell_of_row _ _ _ _ _ _ NZ.out];rfl
        have n1:wz.cell? ⟨wr.heap.size,1,none⟩=some (.int .i64 (wat (fe Fs k).f q).y):=by rw [cell_of_row _ _ _ _ _ _ NZ.out];rfl
        have n2:wz.cell? ⟨wr.heap.size,2,none⟩=some (.int .i64 (wat (fe Fs k).f q).k):=by rw [cell_of_row _ _ _ _ _ _ NZ.out];rfl
        have n3:wz.cell? ⟨wr.heap.size,3,none⟩=some (.int .i64 (wat (fe Fs k).f q).n):=by rw [cell_of_row _ _ _ _ _ _ NZ.out];rfl
        have n4:wz.cell? ⟨wr.heap.size,4,none⟩=some (.string (wat (fe Fs k).f q).s):=by rw [cell_of_row _ _ _ _ _ _ NZ.out];rfl
        go_region_held3 (fun w'=>w'.cell? ⟨(fe Fs k).g,q*5,none⟩=some (.string (wat (fe Fs k).f q).a)∧w'.cell? ⟨(fe Fs k).g,q*5+1,none⟩=some (.int .i64 (wat (fe Fs k).f q).y)∧w'.cell? ⟨(fe Fs k).g,q*5+1+1,none⟩=some (.int .i64 (wat (fe Fs k).f q).k)∧w'.cell? ⟨(fe Fs k).g,q*5+1+1+1,none⟩=some (.int .i64 (wat (fe Fs k).f q).n)∧w'.cell? ⟨(fe Fs k).g,q*5+1+1+1+1,none⟩=some (.string (wat (fe Fs k).f q).s)∧w'.cell? ⟨wr.heap.size,0,none⟩=some (.string (wat (fe Fs k).f q).a)∧w'.cell? ⟨wr.heap.size,1,none⟩=some (.int .i64 (wat (fe Fs k).f q).y)∧w'.cell? ⟨wr.heap.size,2,none⟩=some (.int .i64 (wat (fe Fs k).f q).k)∧w'.cell? ⟨wr.heap.size,3,none⟩=some (.int .i64 (wat (fe Fs k).f q).n)∧w'.cell? ⟨wr.heap.size,4,none⟩=some (.string (wat (fe Fs k).f q).s))
         (simp [go_sem, *]) (fail)
        clear n0 n1 n2 n3 n4
        have f0:=RZ.out.frozen (q*5)
        have f1:=RZ.out.frozen (q*5+1)
        have f2:=RZ.out.frozen (q*5+1+1)
        have f3:=RZ.out.frozen (q*5+1+1+1)
        have f4:=RZ.out.frozen (q*5+1+1+1+1)
        go_wp2_with fail
        unfold ov5 at S4 R4
        refine ⟨⟨q+1,by omega,rfl,by go_num,S4,R4⟩,?_⟩
        simp [intOf];omega
       ·clear hat
        go_wp2_with fail
        obtain ⟨wz,hz⟩:∃ wz,wz=wr.alloc (.cells #[.string ⟨#[115,112,97,114,101]⟩,.int .i64 0,.int .i64 0,.int .i64 0,.string ⟨#[]⟩] 76):=⟨_,rfl⟩
        have gz:Gr wr wz:=by rw [hz];exact (Gr.refl wr).alloc _
        have NZ:Hid (wz.heap[wr.heap.size]? = some (.cells #[.string ⟨#[115,112,97,114,101]⟩,.int .i64 0,.int .i64 0,.int .i64 0,.string ⟨#[]⟩] 76 (0,0))):=by
         show _=_
         rw [hz];exact heap_alloc_new _ _
        rw [← hz]
        clear hz c1 c2 c3 c4 c5 f0 f1 f2 f3 f4 y3 z3 h1 h2 h3 h4
        have SZ:=Hid.mk' (S2.out.gr gz)
        have RZ:=Hid.mk' (R2.out.gr gz)
        clear S2 R2 gz
        have S4:Hid (Sx w (ov5 wz (fe Fs k).g (q*5) (.string ⟨#[97]⟩) (.int .i64 1) (.int .i64 0) (.int .i64 0) (.string ⟨#[]⟩)) base LB (.slice ea Es.length ek) (.slice ewa Es.length ewk) (.slice (some ⟨fb,0,none⟩) Fs.length fk) (.slice (some ⟨wb,0,none⟩) Fs.length wk) Es Fs i (k+1)):=by rw [ov5_eq];exact (SZ.out.setF5 hlt RZ.out _ _ _ _ _).gr (Gr.refl _).drew
        have R4:Hid (RoF (ov5 wz (fe Fs k).g (q*5) (.string ⟨#[97]⟩) (.int .i64 1) (.int .i64 0) (.int .i64 0) (.string ⟨#[]⟩)) (fe Fs k) (q+1)):=by rw [ov5_eq];exact (RZ.out.set5 _ _ _ _ _).gr (Gr.refl _).drew
        obtain ⟨c1,c2,c3,c4,c5⟩:=RZ.out.cells hql
        rw [outW_past hqf hql] at c1 c2 c3 c4 c5;unfold spareW at c1 c2 c3 c4 c5
        have n0:wz.cell? ⟨wr.heap.size,0,none⟩=some (.string ⟨#[115,112,97,114,101]⟩):=by rw [cell_of_row _ _ _ _ _ _ NZ.out];rfl
        have n1:wz.cell? ⟨wr.heap.size,1,none⟩=some (.int .i64 0):=by rw [cell_of_row _ _ _ _ _ _ NZ.out];rfl
        have n2:wz.cell? ⟨wr.heap.size,2,none⟩=some (.int .i64 0):=by rw [cell_of_row _ _ _ _ _ _ NZ.out];rfl
        have n3:wz.cell? ⟨wr.heap.size,3,none⟩=some (.int .i64 0):=by rw [cell_of_row _ _ _ _ _ _ NZ.out];rfl
        have n4:wz.cell? ⟨wr.heap.size,4,none⟩=some (.string ⟨#[]⟩):=by rw [cell_of_row _ _ _ _ _ _ NZ.out];rfl
        go_region_held3 (fun w'=>w'.cell? ⟨(fe Fs k).g,q*5,none⟩=some (.string ⟨#[115,112,97,114,101]⟩)∧w'.cell? ⟨(fe Fs k).g,q*5+1,none⟩=some (.int .i64 0)∧w'.cell? ⟨(fe Fs k).g,q*5+1+1,none⟩=some (.int .i64 0)∧w'.cell? ⟨(fe Fs k).g,q*5+1+1+1,none⟩=some (.int .i64 0)∧w'.cell? ⟨(fe Fs k).g,q*5+1+1+1+1,none⟩=some (.string ⟨#[]⟩)∧w'.cell? ⟨wr.heap.size,0,none⟩=some (.string ⟨#[115,112,97,114,101]⟩)∧w'.cell? ⟨wr.heap.size,1,none⟩=some (.int .i64 0)∧w'.cell? ⟨wr.heap.size,2,none⟩=some (.int .i64 0)∧w'.cell? ⟨wr.heap.size,3,none⟩=some (.int .i64 0)∧w'.cell? ⟨wr.heap.size,4,none⟩=some (.string ⟨#[]⟩))
         (simp [go_sem, *]) (fail)
        clear n0 n1 n2 n3 n4
        have f0:=RZ.out.frozen (q*5)
        have f1:=RZ.out.frozen (q*5+1)
        have f2:=RZ.out.frozen (q*5+1+1)
        have f3:=RZ.out.frozen (q*5+1+1+1)
        have f4:=RZ.out.frozen (q*5+1+1+1+1)
        go_wp2_with fail
        unfold ov5 at S4 R4
        refine ⟨⟨q+1,by omega,rfl,by go_num,S4,R4⟩,?_⟩
        simp [intOf];omega
      ·go_wp2_with fail
       go_roundw
       case rel=>exact ⟨k+1,by omega,rfl,by go_num,S2⟩
       case measure=>simp [intOf];omega
    ·have y0:wr.cell? ⟨LB,0,none⟩=some (.slice ea Es.length ek):=by rw [cell_of_row _ _ _ _ _ _ S.out.box];rfl
     have y1:wr.cell? ⟨LB,1,none⟩=some (.slice ewa Es.length ewk):=by rw [cell_of_row _ _ _ _ _ _ S.out.box];rfl
     have f0:wr.frozen? ⟨LB,0,none⟩=false:=frozen_of_row _ _ _ _ _ S.out.box
     have f1:wr.frozen? ⟨LB,1,none⟩=false:=frozen_of_row _ _ _ _ _ S.out.box
     have f2:wr.frozen? ⟨LB,2,none⟩=false:=frozen_of_row _ _ _ _ _ S.out.box
     have f3:wr.frozen? ⟨LB,3,none⟩=false:=frozen_of_row _ _ _ _ _ S.out.box
     have B0:=S.out.box
     have B1:=blk_set_same (j:=0) B0 (.slice none 0 0)
     have B2:=blk_set_same (j:=1) B1 (.slice none 0 0)
     have B3:=blk_set_same (j:=2) B2 (.slice none 0 0)
     have BB:Hid (((((wr.setCell ⟨LB,0,none⟩ (.slice none 0 0)).setCell ⟨LB,1,none⟩ (.slice none 0 0)).setCell ⟨LB,2,none⟩ (.slice none 0 0)).setCell ⟨LB,3,none⟩ (.slice none 0 0)).heap[LB]? = some (.cells #[.slice none 0 0,.slice none 0 0,.slice none 0 0,.slice none 0 0] 152 (0,0))) :=
      blk_set_same (j:=3) B3 (.slice none 0 0)
     have GG:Hid (Kp tsS base w ((((wr.setCell ⟨LB,0,none⟩ (.slice none 0 0)).setCell ⟨LB,1,none⟩ (.slice none 0 0)).setCell ⟨LB,2,none⟩ (.slice none 0 0)).setCell ⟨LB,3,none⟩ (.slice none 0 0))) :=
      (((S.out.kp.set B0 (by decide) LBB.out _).set B1 (by decide) LBB.out _).set B2 (by decide) LBB.out _).set B3 (by decide) LBB.out _
     have KQ:Hid (∀ x,x<w.heap.size→x≠LB→(∀ e∈Es,x≠e.g)→(∀ e∈Fs,x≠e.g)→((((wr.setCell ⟨LB,0,none⟩ (.slice none 0 0)).setCell ⟨LB,1,none⟩ (.slice none 0 0)).setCell ⟨LB,2,none⟩ (.slice none 0 0)).setCell ⟨LB,3,none⟩ (.slice none 0 0)).heap[x]? = w.heap[x]?):=fun x hx h1 h2 h3=>by
      rw [Below.heap_setCell _ ⟨LB,3,none⟩ _ x h1,Below.heap_setCell _ ⟨LB,2,none⟩ _ x h1,Below.heap_setCell _ ⟨LB,1,none⟩ _ x h1,Below.heap_setCell _ ⟨LB,0,none⟩ _ x h1]
      exact S.out.kq x hx h1 (fun j hj=>h2 _ (ee_mem hj)) (fun j hj=>h3 _ (fe_mem hj))
     clear B0 B1 B2 B3
     go_wp2_with fail
     go_ret
     exact ⟨rfl,GG.out,BB.out,KQ.out⟩
end Go.Proofs.YtecnfgikbmcgoaaGreat
