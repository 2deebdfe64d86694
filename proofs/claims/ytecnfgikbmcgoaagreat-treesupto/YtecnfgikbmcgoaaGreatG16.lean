import Derived.Test.YtecnfgikbmcgoaaGreatG15
import Derived.Test.YtecnfgikbmcgoaaGreatG6
import Derived.Carry
namespace Go.Proofs.YtecnfgikbmcgoaaGreat
open Go.RowKit
open Go.Maps (Keyed)
set_option maxRecDepth 100000 in
set_option maxHeartbeats 4000000 in
theorem Unsubscribe_ok (T:Tc) (r:Nat→Rl) (w:World) (cls:List Cl) (s:Ts) (x:Cl) (id:Int) (h:Hw)
  (hT:Tw T r w cls s) (hx:x∈cls) (hid:I64 id) (hs:Srt (s.held x.at')) (hh:h∈s.held x.at') (hk:h.key=(x.num,id)) (hm:Sm T s) :
  Calls Tryz.prog 18 #[.pointer (some ⟨T.TB,0,none⟩),.int .i64 x.num,.int .i64 id] w fun e w'=>e = .returned (.int .i64 0) ∧ ∃ r',Tw T r' w' cls (s.turn cov T.adj x.at' (del h.key (s.held x.at')))∧Fr r r' w w':=by
 obtain ⟨Xs,qs,hT,hV⟩:=hT
 have hnum:=(hT.k.num x hx).1
 have hb:=(hT.k.num x hx).2
 have hnb:=hT.b.nb8
 have hlu0:=hT.k.find hx
 have c1:=hT.b.c1
 obtain ⟨⟨h',a',c'⟩,hy,rfl⟩:=(hV.held _ hb h).1 hh
 have ga:Gr w (w.alloc (.cells #[.int .i64 x.num,.int .i64 id] 112)):=(Gr.refl w).alloc _
 have HB:=heap_alloc_new w (.cells #[.int .i64 x.num,.int .i64 id] 112)
 have hsz:(w.alloc (.cells #[.int .i64 x.num,.int .i64 id] 112)).heap.size=w.heap.size+1:=by simp
 have HT:=Hid.mk' hT
 have HV:=Hid.mk' hV
 have HS:=Hid.mk' hs
 have HH:=Hid.mk' hh
 have HK:=Hid.mk' hk
 have HM:=Hid.mk' hm
 have HX:=Hid.mk' hx
 have HY:=Hid.mk' hy
 have HI:=Hid.mk' (And.intro hnum hid)
 have G1:=Hid.mk' ga
 have HHB:=Hid.mk' HB
 clear hT hV hs hh hk hm hx hy hnum hid ga HB
 simp only at *
 go_enter Tryz.func18,Tryz.ntmps18
 go_wp2_with fail
 generalize (w.alloc (.cells #[.int .i64 x.num,.int .i64 id] 112))=W1 at *
 have T1:=HT.out.gr G1.out
 obtain ⟨es,clock,hmp⟩:=(T1.h.at' x.at' hb).2
 obtain ⟨lk,hlk⟩:=keyK (x.num,id) HI.out.1 HI.out.2
 have hyes:(pk (x.num,id),.agg (hv h' a' c'))∈(Xs x.at').map mv:=by
  rw [← HK.out];exact List.mem_map.2 ⟨_,HY.out,rfl⟩
 have gz:Gr W1 (W1.alloc (.cells #[.int .i64 0,.int .i64 0,.slice none 0 0,.int .i64 0] 121)):=(Gr.refl W1).alloc _
 have hlu:=Mp.look_yes Tryz.keyedK Tryz.underlying123 (hmp.kept (w':=W1.drew) rfl) hlk hyes true
 have hlu2:=Mp.look_yes Tryz.keyedK Tryz.underlying123 (hmp.kept (w':=(W1.alloc (.cells #[.int .i64 0,.int .i64 0,.slice none 0 0,.int .i64 0] 121)).drew) (gz.block _ hmp.lt)) hlk hyes true
 unfold pk hv at hlu hlu2
 have hTB:=T1.tlt
 have hHB:=T1.hlt
 have hws:w.heap.size<W1.heap.size:=by omega
 have c0:=T1.b.c0
 have cb:=T1.b.hb x.at' hb
 obtain ⟨hcr,hcb⟩:=T1.k.blk x HX.out
 have hclt:=blk_lt hcb
 have k0:W1.cell? ⟨w.heap.size,0,none⟩=some (.int .i64 x.num):=by rw [cell_of_row _ _ _ _ _ _ HHB.out];rfl
 have k1:W1.cell? ⟨w.heap.size,1,none⟩=some (.int .i64 id):=by rw [cell_of_row _ _ _ _ _ _ HHB.out];rfl
 have ka:W1.cell? ⟨x.blk,0,none⟩=some (.int .i64 x.at'):=by rw [cell_of_row _ _ _ _ _ _ hcb];rfl
 have c0':=(gz.cell (p:=⟨T.TB,0,none⟩) hTB).trans c0
 have cb':=(gz.cell (p:=⟨T.HB,x.at',none⟩) hHB).trans cb
 have k0':=(gz.cell (p:=⟨w.heap.size,0,none⟩) hws).trans k0
 have k1':=(gz.cell (p:=⟨w.heap.size,1,none⟩) hws).trans k1
 have ka':=(gz.cell (p:=⟨x.blk,0,none⟩) hclt).trans ka
 clear T1 hmp hyes gz hcr hcb hlu0 c1
 go_region
 all_goals
  clear hlu hlu2 c0' cb' k0' k1' ka' c0 cb k0 k1 ka
  have gz:Gr W1 (W1.alloc (.cells #[.int .i64 h'.key.1,.int .i64 h'.key.2,.slice a' h'.f.length c',.int .i64 h'.fr] 121)).drew:=((Gr.refl W1).alloc _).drew
  have G2:=Hid.mk' (Gr.call G1.out gz)
  have HK2:=Hid.mk' (blk_gr gz HHB.out)
  go_wp2_with fail
  generalize (W1.alloc (.cells #[.int .i64 h'.key.1,.int .i64 h'.key.2,.slice a' h'.f.length c',.int .i64 h'.fr] 121)).drew=w3 at *
  have HCL3:=Hid.mk' ((HT.out.gr G2.out).k.blk x HX.out).2
  have k0:w3.cell? ⟨w.heap.size,0,none⟩=some (.int .i64 x.num):=by rw [cell_of_row _ _ _ _ _ _ HK2.out];rfl
  have k1:w3.cell? ⟨w.heap.size,1,none⟩=some (.int .i64 id):=by rw [cell_of_row _ _ _ _ _ _ HK2.out];rfl
  have ka:w3.cell? ⟨x.blk,0,none⟩=some (.int .i64 x.at'):=by rw [cell_of_row _ _ _ _ _ _ HCL3.out];rfl
  have DR:Hid (∀ W,W=w3.drew→Calls Tryz.prog 42 #[.pointer (some ⟨T.TB,0,none⟩),.int .i64 x.at',.agg #[.int .i64 x.num,.int .i64 id]] W fun e w'=>e = .returned (.tuple #[]) ∧ ∃ r',Tw T r' w' cls (s.turn cov T.adj x.at' (del h'.key (s.held x.at')))∧Fr r r' w w'):=by
   intro W e
   subst e
   have:=drop_w T r w3.drew Xs qs cls s x.at' h' (HT.out.gr G2.out.drew) HV.out hb HS.out HH.out HM.out
   rw [HK.out] at this ⊢
   refine this.mono ?_
   rintro e w' ⟨h1,r',h2,h3⟩
   exact ⟨h1,r',h2,(Fr.gr G2.out.drew).trans h3⟩
  clear gz
  go_region_with (go_at_call 42;refine (DR.out _ rfl).mono ?_;rintro e w5 ⟨rfl,FE⟩)
  all_goals
   have FE2:=Hid.mk' FE
   clear FE DR k0 k1 ka
   go_wp2_with fail
   go_ret
   exact ⟨rfl,FE2.out⟩
end Go.Proofs.YtecnfgikbmcgoaaGreat
namespace Go.Proofs.YtecnfgikbmcgoaaGreat
open Go.RowKit
open Go.Maps (Keyed)
open Go.ChangeMaps (setBlock)
theorem Mp.put_any {P:Program} {kt et mt:TypeId} {w:World} {B:Nat} {m:List (Value × Value)} {es:Array MapEntry} {clock:Nat} (K:Keyed P kt) (ht:P.underlying mt=some (.map kt et)) (h:Mp P kt w B m es clock) {k v:Value} {l:Lit} (hk:keyOf P kt k=some l) :
  ∃ m' es' clock',(Instr.mapUpdate mt (.map (some B)) k v).run P w = .ok () (setBlock w B (.map es' clock'))∧Mp P kt (setBlock w B (.map es' clock')) B m' es' clock' ∧ ∀ k' v',(k',v')∈m'↔(k'=k∧v'=v)∨(k'≠k∧(k',v')∈m):=by
 by_cases hv:∃ v0,(k,v0)∈m
 ·obtain ⟨v0,hv⟩:=hv
  obtain ⟨es',m1,m2,hm,h1,h2⟩:=Mp.put_old (v:=v) K ht h hk hv
  refine ⟨_,es',clock,h1,h2,fun k' v'=>?_⟩
  have hd:=h.nod
  rw [hm] at hd
  have hne:∀ y:Value × Value,y∈m1∨y∈m2→y.1≠k:=by
   intro y hy
   simp only [List.map_append,List.map_cons] at hd
   rw [List.nodup_append] at hd
   obtain ⟨_,d2,d3⟩:=hd
   rcases hy with hy | hy
   ·exact d3 _ (List.mem_map.2 ⟨y,hy,rfl⟩) k (by simp)
   ·exact fun e=>(List.nodup_cons.1 d2).1 (List.mem_map.2 ⟨y,hy,e⟩)
  rw [hm]
  simp only [List.mem_append,List.mem_cons,Prod.mk.injEq]
  constructor
  ·rintro (h3 | ⟨h3,h4⟩ | h3)
   ·exact Or.inr ⟨hne _ (Or.inl h3),Or.inl h3⟩
   ·exact Or.inl ⟨h3,h4⟩
   ·exact Or.inr ⟨hne _ (Or.inr h3),Or.inr (Or.inr h3)⟩
  ·rintro (⟨h3,h4⟩ | ⟨h3,h4 | ⟨h4,h5⟩ | h4⟩)
   ·exact Or.inr (Or.inl ⟨h3,h4⟩)
   ·exact Or.inl h4
   ·exact absurd h4 h3
   ·exact Or.inr (Or.inr h4)
 ·have hv':∀ v,(k,v) ∉ m:=fun v0 h0=>hv ⟨v0,h0⟩
  obtain ⟨h1,h2⟩:=Mp.put_new (v:=v) K ht h hk hv'
  refine ⟨_,_,_,h1,h2,fun k' v'=>?_⟩
  simp only [List.mem_append,List.mem_singleton,Prod.mk.injEq]
  constructor
  ·rintro (h3 | ⟨h3,h4⟩)
   ·exact Or.inr ⟨fun e=>hv' v' (by rw [← e];exact h3),h3⟩
   ·exact Or.inl ⟨h3,h4⟩
  ·rintro (⟨h3,h4⟩ | ⟨h3,h4⟩)
   ·exact Or.inr ⟨h3,h4⟩
   ·exact Or.inl h4
theorem own_cells {w:World} {base n size:Nat} {e:TypeId} {v:Value} {xs:List Value} (h:w.ownsRow base e size v n xs) {k:Nat} (hk:v.ownBlock=some k):∃ cur,w.heap[k]? = some (.cells cur e (0,0)):=by
 rcases h.2 with ⟨rfl,_⟩ | ⟨g,cap,cur,rfl,_,hg,_⟩
 ·simp [Value.ownBlock] at hk
 ·simp [Value.ownBlock] at hk
  subst hk
  exact ⟨cur,hg⟩
theorem Tryz.infoMapH:(Tryz.prog.info? 123).map (fun i=>(i.zero,i.size,i.bytes))=some (some (.map none),1,8):=by kernel_rfl
def maps_ (l:List Nat):List Value:=l.map fun b=>.map (some b)
structure Nw (w0:World) (TB CB LB:Nat) (v:Value) (q:Nat) (Ms:List Nat) (wr:World):Prop where
 gr:Gr w0 wr
 tb:wr.heap[TB]? = some (.cells #[v,.map (some CB),.map (some LB)] 119 (0,0))
 cb:wr.heap[CB]? = some (.map #[] 0)
 lb:wr.heap[LB]? = some (.map #[] 0)
 row:wr.ownsRow w0.heap.size 123 1 v q (maps_ Ms)
 len:Ms.length=q
 ms:∀ b∈Ms,wr.heap[b]? = some (.map #[] 0)∧TB<b
 nd:Ms.Nodup
theorem Nw.put {w0:World} {TB CB LB:Nat} {v:Value} {q:Nat} {Ms:List Nat} {wr:World} (h:Nw w0 TB CB LB v q Ms wr) (hT:w0.heap.size≤TB) (_hC:w0.heap.size≤CB) (_hL:w0.heap.size≤LB) {o2:Obj} {w3:World} {v':Value}
  (g3:((wr.alloc (.map #[] 0)).alloc o2).grownBy w3 v.ownBlock) (ho:w3.ownsRow w0.heap.size 123 1 v' (q+1) (maps_ Ms++[.map (some wr.heap.size)])) :
  Nw w0 TB CB LB v' (q+1) (Ms++[wr.heap.size]) (w3.setCell ⟨TB,0,none⟩ v'):=by
 have old:∀ k o,wr.heap[k]? = some o→some k≠v.ownBlock→w3.heap[k]? = some o:=by
  intro k o hk hn
  have hl:=blk_lt hk
  rw [g3.block k (by simp;omega) hn,heap_alloc_old _ _ (by simp;omega),heap_alloc_old _ _ hl]
  exact hk
 have nmap:∀ k,wr.heap[k]? = some (.map #[] 0)→some k≠v.ownBlock:=by
  intro k hk e
  obtain ⟨cur,hc⟩:=own_cells h.row e.symm
  rw [hk] at hc;cases hc
 have nT:some TB≠v.ownBlock:=fun e=>by
  obtain ⟨cur,hc⟩:=own_cells h.row e.symm
  rw [h.tb] at hc
  injection hc with hc
  injection hc with _ hc _
  revert hc;decide
 have hTB:=old _ _ h.tb nT
 have hTl:=blk_lt h.tb
 have hnew:w3.heap[wr.heap.size]? = some (.map #[] 0):=by
  rw [g3.block _ (by simp;omega) (fun e=>by
   obtain ⟨cur,hc⟩:=own_cells h.row e.symm
   have:=blk_lt hc;omega),heap_alloc_old _ _ (by simp)]
  exact heap_alloc_new wr _
 have hne:∀ k o,w3.heap[k]? = some o→k≠TB→(w3.setCell ⟨TB,0,none⟩ v').heap[k]? = some o:=fun k o hk hn=>(Below.heap_setCell w3 _ v' k hn).trans hk
 have hmT:∀ k,wr.heap[k]? = some (.map #[] 0)→k≠TB:=fun k hk e=>by rw [e,h.tb] at hk;cases hk
 refine ⟨?_,?_,hne _ _ (old _ _ h.cb (nmap _ h.cb)) (hmT _ h.cb),hne _ _ (old _ _ h.lb (nmap _ h.lb)) (hmT _ h.lb),?_,by simp [h.len],fun b hb=>?_,?_⟩
 ·refine Below.setCell ?_ (p:=⟨TB,0,none⟩) hT _
  exact Below.grown (((h.gr.alloc _).alloc _)) g3 (by have:=h.gr.size;simp;omega) (own_low h.row)
 ·rw [heap_setCell_same _ _ _ _ _ _ hTB];rfl
 ·have:maps_ (Ms++[wr.heap.size])=maps_ Ms++[.map (some wr.heap.size)]:=by simp [maps_]
  rw [this]
  exact owns_set ho hTB (by decide) v'
 ·rcases List.mem_append.1 hb with hb | hb
  ·have:=h.ms b hb
   exact ⟨hne _ _ (old _ _ this.1 (nmap _ this.1)) (hmT _ this.1),this.2⟩
  ·rw [List.mem_singleton.1 hb]
   exact ⟨hne _ _ hnew (by omega),hTl⟩
 ·rw [List.nodup_append]
  refine ⟨h.nd,by simp,fun a ha b hb e=>?_⟩
  rw [List.mem_singleton.1 hb] at e
  have:=blk_lt (h.ms a ha).1
  omega
theorem Nw.tb3 {w0:World} {TB CB LB:Nat} {v:Value} {q:Nat} {Ms:List Nat} {wr:World} (h:Nw w0 TB CB LB v q Ms wr) {o2:Obj} {w3:World} (g3:((wr.alloc (.map #[] 0)).alloc o2).grownBy w3 v.ownBlock):w3.heap[TB]? = some (.cells #[v,.map (some CB),.map (some LB)] 119 (0,0)):=by
 have nT:some TB≠v.ownBlock:=fun e=>by
  obtain ⟨cur,hc⟩:=own_cells h.row e.symm
  rw [h.tb] at hc
  injection hc with hc
  injection hc with _ hc _
  revert hc;decide
 have hl:=blk_lt h.tb
 rw [g3.block TB (by simp;omega) nT,heap_alloc_old _ _ (by simp;omega),heap_alloc_old _ _ hl]
 exact h.tb
structure Nl (m:List (Value × Value)) (es:List Ky):Prop where
 of:∀ k v,(k,v)∈m→v = .slice none 0 0 ∧ ∃ e∈es,k=pk e∨k=pk (e.2,e.1)
 all:∀ e∈es,(∃ v,(pk e,v)∈m) ∧ ∃ v,(pk (e.2,e.1),v)∈m
theorem Nl.step {m m1 m2:List (Value × Value)} {es:List Ky} {e:Ky} (h:Nl m es) (h1:∀ k' v',(k',v')∈m1↔(k'=pk e∧v' = .slice none 0 0)∨(k'≠pk e∧(k',v')∈m)) (h2:∀ k' v',(k',v')∈m2↔(k'=pk (e.2,e.1)∧v' = .slice none 0 0)∨(k'≠pk (e.2,e.1)∧(k',v')∈m1)):Nl m2 (es++[e]):=by
 have key:∀ k,(∃ v,(k,v)∈m2)↔k=pk (e.2,e.1)∨k=pk e ∨ ∃ v,(k,v)∈m:=by
  intro k
  constructor
  ·rintro ⟨v,hv⟩
   rcases (h2 k v).1 hv with ⟨a,_⟩ | ⟨_,hv⟩
   ·exact Or.inl a
   ·rcases (h1 k v).1 hv with ⟨a,_⟩ | ⟨_,hv⟩
    ·exact Or.inr (Or.inl a)
    ·exact Or.inr (Or.inr ⟨v,hv⟩)
  ·intro hk
   by_cases e2:k=pk (e.2,e.1)
   ·exact ⟨_,(h2 k _).2 (Or.inl ⟨e2,rfl⟩)⟩
   ·by_cases e1:k=pk e
    ·exact ⟨_,(h2 k _).2 (Or.inr ⟨e2,(h1 k _).2 (Or.inl ⟨e1,rfl⟩)⟩)⟩
    ·rcases hk with a | a | ⟨v,hv⟩
     ·exact absurd a e2
     ·exact absurd a e1
     ·exact ⟨v,(h2 k v).2 (Or.inr ⟨e2,(h1 k v).2 (Or.inr ⟨e1,hv⟩)⟩)⟩
 refine ⟨fun k v hv=>?_,fun x hx=>?_⟩
 ·rcases (h2 k v).1 hv with ⟨a,b⟩ | ⟨_,hv⟩
  ·exact ⟨b,e,by simp,Or.inr a⟩
  ·rcases (h1 k v).1 hv with ⟨a,b⟩ | ⟨_,hv⟩
   ·exact ⟨b,e,by simp,Or.inl a⟩
   ·obtain ⟨a,x,hx,hxk⟩:=h.of k v hv
    exact ⟨a,x,by simp [hx],hxk⟩
 ·rw [key,key]
  rcases List.mem_append.1 hx with hx | hx
  ·exact ⟨Or.inr (Or.inr (h.all x hx).1),Or.inr (Or.inr (h.all x hx).2)⟩
  ·rw [List.mem_singleton.1 hx];exact ⟨Or.inr (Or.inl rfl),Or.inl rfl⟩
theorem fresh {w0 w4 wr:World} {TB CB LB nb:Nat} {v:Value} {Ms:List Nat} (ml:Int) (h:Nw w0 TB CB LB v nb Ms w4) (hT:w0.heap.size≤TB) (hC:CB<TB) (hC0:w0.heap.size≤CB) (hL:LB<TB) (hL0:w0.heap.size≤LB) (hCL:CB≠LB) (hml:Ml ml w0) (hn1:1≤nb) (hn8:nb≤8) {adj:Nat→Nat→Bool} (hadj:∀ a b,adj a b=true→a<nb∧b<nb)
  {es:List Ky} (hE:∀ a b,adj a b=true↔EdgeOf es a b) (hes:∀ e∈es,∃ a b:Nat,e=((a:Int),(b:Int))) (g:w4.grownBy wr (some LB)) {m:List (Value × Value)} {esm:Array MapEntry} {ck:Nat} (hm:Mp Tryz.prog 81 wr LB m esm ck) (hNl:Nl m es) :
  ∃ HB hcap MB r,Tw ⟨nb,adj,TB,HB,hcap,MB,CB,LB,ml⟩ r wr [] (TS.none (List Wnt) (List Atr))∧Fr (fun _=>.no) r w0 wr:=by
 obtain ⟨va,hcap,rfl,hva⟩:=owns_shape h.row
 obtain ⟨HB,rfl⟩:=hva (by omega)
 have hHlow:=own_low h.row HB rfl
 have hHlt:=owns_lt h.row
 obtain ⟨cur,hHc⟩:=own_cells h.row (k:=HB) rfl
 have eq4:∀ k o,w4.heap[k]? = some o→k≠LB→wr.heap[k]? = some o:=fun k o hk hn=>(g.block k (blk_lt hk) (fun e=>hn (by injection e))).trans hk
 have hHL:HB≠LB:=fun e=>by rw [e,h.lb] at hHc;cases hHc
 have hHC:HB≠CB:=fun e=>by rw [e,h.cb] at hHc;cases hHc
 have hHT:HB≠TB:=fun e=>by
  rw [e,h.tb] at hHc
  injection hHc with hc
  injection hc with _ hc _
  revert hc;decide
 have hHM:∀ b∈Ms,b≠HB:=fun b hb e=>by have:=(h.ms b hb).1;rw [e,hHc] at this;cases this
 have hml0:=hml.pos
 have tb:=eq4 _ _ h.tb (by omega)
 have gr0:∀ k,k<w0.heap.size→wr.heap[k]? = w0.heap[k]? := fun k hk=>(g.block k (Nat.lt_of_lt_of_le hk h.gr.size) (fun e=>by injection e with e;omega)).trans (h.gr.block k hk)
 have hsz:w0.heap.size≤wr.heap.size:=Nat.le_trans h.gr.size g.size
 have mg:∀ b,b<nb→nat_ Ms b∈Ms:=fun b hb=>nat_mem (by rw [h.len];exact hb)
 have role:∃ r:Nat→Rl,r TB = .fx∧r HB = .fx∧r CB = .cm∧r LB = .lm∧(∀ b,b<nb→r (nat_ Ms b) = .hm b)∧(∀ k,k<w0.heap.size→r k = .no) ∧ ∀ k,wr.heap.size≤k→r k = .no:=by
  refine ⟨fun k=>if k=TB∨k=HB then .fx else if k=CB then .cm else if k=LB then .lm else if k∈Ms then .hm (Ms.idxOf k) else .no,by simp,by simp,?_,?_,fun b hb=>?_,fun k hk=>?_,fun k hk=>?_⟩
  ·show (if CB=TB∨CB=HB then _ else _)=_
   rw [if_neg (by omega),if_pos rfl]
  ·show (if LB=TB∨LB=HB then _ else _)=_
   rw [if_neg (by omega),if_neg (by omega),if_pos rfl]
  ·have h1:=h.ms _ (mg b hb)
   have h2:=hHM _ (mg b hb)
   simp only
   rw [if_neg (by omega),if_neg (by omega),if_neg (by omega),if_pos (mg b hb)]
   congr 1
   unfold nat_
   rw [List.getD_eq_getElem?_getD,List.getElem?_eq_getElem (by rw [h.len];exact hb)]
   simp only [Option.getD_some]
   exact List.Nodup.idxOf_getElem h.nd _ _
  ·simp only
   rw [if_neg (by omega),if_neg (by omega),if_neg (by omega),if_neg (fun hm=>by have:=(h.ms k hm).2;omega)]
  ·have l1:=blk_lt tb
   have l2:=blk_lt (eq4 _ _ hHc hHL)
   simp only
   rw [if_neg (by omega),if_neg (by omega),if_neg (by omega),if_neg (fun hm=>by
    have:=blk_lt (h.ms k hm).1
    have:=g.size
    omega)]
 obtain ⟨r,r1,r2,r3,r4,r5,r6,r7⟩:=role
 refine ⟨HB,hcap,nat_ Ms,r,⟨fun _=>[],fun _ _=>[],⟨⟨hn8,hn1,hadj,?_,?_,?_,r1,r2,fun b hb=>?_,r7,r6 0 hml0,?_⟩,⟨fun b hb=>⟨r5 b hb,#[],0,?_⟩,fun b hb x hx=>(by cases hx)⟩,⟨r4,⟨m,esm,ck,hm,fun k u hu=>?_,fun a b hab=>?_⟩,fun a b x hx=>(by cases hx),fun a b hf=>rfl⟩,⟨r3,⟨#[],0,?_⟩,fun c hc=>(by cases hc),fun c hc=>(by cases hc),fun c hc=>(by cases hc),fun c hc=>(by cases hc)⟩⟩,⟨fun b hb x=>?_,fun a b=>rfl⟩⟩,?_⟩
 ·show wr.cell? ⟨TB,0,none⟩=_
  rw [cell_of_row _ _ _ _ _ _ tb];rfl
 ·show wr.cell? ⟨TB,1,none⟩=_
  rw [cell_of_row _ _ _ _ _ _ tb];rfl
 ·show wr.cell? ⟨TB,2,none⟩=_
  rw [cell_of_row _ _ _ _ _ _ tb];rfl
 ·have hb:b<nb:=hb
  show wr.cell? ⟨HB,b,none⟩=_
  rw [World.cell?_of_block (w:=w4) (a:=⟨HB,b,none⟩) (g.block HB hHlt (fun e=>hHL (by injection e))),World.ownsRow.cellAt h.row b (by omega)]
  simp [maps_,nat_,show b<Ms.length by rw [h.len];exact hb]
 ·exact ⟨by rw [cell_blk (gr0 0 hml0)];exact hml.cell,Nat.lt_of_lt_of_le hml0 hsz⟩
 ·have h1:=h.ms _ (mg b hb)
  exact ⟨eq4 (nat_ Ms b) _ h1.1 (by omega),rfl,by simp,by simp,by simp,by simp⟩
 ·obtain ⟨hv,e,he,hk⟩:=hNl.of k u hu
  obtain ⟨a,b,rfl⟩:=hes e he
  subst hv
  rcases hk with hk | hk
  ·exact ⟨a,b,hk,(hE a b).2 (Or.inl he),Qr.nil _ _ _ _⟩
  ·exact ⟨b,a,hk,(hE b a).2 (Or.inr he),Qr.nil _ _ _ _⟩
 ·rcases (hE a b).1 hab with h1 | h1
  ·exact (hNl.all _ h1).1
  ·exact (hNl.all _ h1).2
 ·exact ⟨eq4 _ _ h.cb hCL,rfl,by simp,by simp,by simp,by simp⟩
 ·simp [TS.none]
 ·exact ⟨g.os.trans h.gr.os,g.tape.trans h.gr.tape,g.output.trans h.gr.output,hsz,fun k hk _=>gr0 k hk,fun k hk=>r6 k hk⟩
theorem mkClients (w:World):(Instr.makeMap 116 none).run Tryz.prog w = .ok (.map (some w.heap.size)) (w.alloc (.map #[] 0)):=run_makeMap _ w
theorem mkLinks (w:World):(Instr.makeMap 117 none).run Tryz.prog w = .ok (.map (some w.heap.size)) (w.alloc (.map #[] 0)):=run_makeMap _ w
theorem mkHeld (w:World):(Instr.makeMap 123 none).run Tryz.prog w = .ok (.map (some w.heap.size)) (w.alloc (.map #[] 0)):=run_makeMap _ w
theorem eat_mem {es:List Ky} {i:Nat} (h:i<es.length):eat es i∈es:=by unfold eat;exact getD_mem h _
theorem eat_take {es:List Ky} {i:Nat} (h:i<es.length):es.take (i+1)=es.take i++[eat es i]:=by
 rw [List.take_succ_eq_append_getElem h];simp [eat,h]
set_option maxRecDepth 100000 in
set_option maxHeartbeats 4000000 in
theorem New_tree (nb:Nat) (es:List Ky) (ad:Option Addr) (cap:Nat) (w:World) (adj:Nat→Nat→Bool) (ml:Int) (hl:es.length≤8) (h:EdAt w ad es) (hI:∀ e∈es,I64 e.1∧I64 e.2) (ht:treeB nb es=true) (hn1:1≤nb) (hn8:nb≤8) (hadj:∀ a b,adj a b=true→a<nb∧b<nb) (hE:∀ a b,adj a b=true↔EdgeOf es a b) (hes:∀ e∈es,∃ a b:Nat,e=((a:Int),(b:Int))) (hml:Ml ml w) :
  Calls Tryz.prog 35 #[.int .i64 nb,.slice ad es.length cap] w fun e w'=>∃ TB HB hcap MB CB LB r,e = .returned (.tuple #[.pointer (some ⟨TB,0,none⟩),.int .i64 0])∧Tw ⟨nb,adj,TB,HB,hcap,MB,CB,LB,ml⟩ r w' [] (TS.none (List Wnt) (List Atr))∧Fr (fun _=>.no) r w w':=by
 obtain ⟨i0,hi,hz0,hz1,hz2⟩:=info_parts Tryz.infoMapH
 have IS:=Hid.mk' (isTree_any nb es ad cap w (by unfold maxLen;omega) h hI)
 rw [ht] at IS
 have HE:=Hid.mk' h
 have HI:=Hid.mk' hI
 have HED:=Hid.mk' hE
 have HES:=Hid.mk' hes
 have HML:=Hid.mk' hml
 have HAD:=Hid.mk' hadj
 clear h hI ht hE hes hml hadj
 go_enter Tryz.func35,Tryz.ntmps35
 go_wp2_with fail
 refine IS.out.mono ?_
 rintro e w1 ⟨rfl,g1⟩
 have G1:=Hid.mk' g1
 have hmc:=mkClients
 have hml:=mkLinks
 have hmh:=mkHeld
 clear IS g1
 go_wp2_with fail
 have N0:Hid (Nw w1 (w1.heap.size+2) w1.heap.size (w1.heap.size+1) (.slice none 0 0) 0 [] (((w1.alloc (.map #[] 0)).alloc (.map #[] 0)).alloc (.cells #[.slice none 0 0,.map (some w1.heap.size),.map (some (w1.heap.size+1))] 119))):=by
  refine ⟨((((Gr.refl w1).alloc _).alloc _).alloc _),?_,?_,?_,World.ownsRow_nil _ _ _ _,rfl,fun b hb=>(by cases hb),List.nodup_nil⟩
  ·exact new_atK (by simp)
  ·rw [heap_alloc_old _ _ (by simp;omega),heap_alloc_old _ _ (by simp)];exact heap_alloc_new w1 _
  ·rw [heap_alloc_old _ _ (by simp)];exact new_atK (by simp)
 go_loopw [18] (fun i wr=>∃ (q:Nat) (v:Value) (Ms:List Nat),q≤nb∧i = .int .i64 q∧Hid (Nw w1 (w1.heap.size+2) w1.heap.size (w1.heap.size+1) v q Ms wr)) (fun i _=>nb - (intOf i).toNat)
 case atStart=>exact ⟨0,_,[],Nat.zero_le _,rfl,N0⟩
 case round =>
  obtain ⟨q,v,Ms,hq,rfl,NW⟩:=hrel
  clear N0
  obtain ⟨va,vk,rfl,hva⟩:=owns_shape NW.out.row
  by_cases hlt:q<nb
  ·have tb:=NW.out.tb
   have t0:wr.cell? ⟨w1.heap.size+2,0,none⟩=some (.slice va q vk):=by rw [cell_of_row _ _ _ _ _ _ tb];rfl
   have f0:wr.frozen? ⟨w1.heap.size+2,0,none⟩=false:=frozen_of_row _ _ _ _ _ tb
   have htl:=blk_lt tb
   have O2:=NW.out.row
   have SZ:=NW.out.gr.size
   clear tb hva
   go_wp2_with (at_builtin;refine wpList_append_own _ rfl _ _ 115 rfl w1.heap.size 123 i0 (.map none) 1 8 Tryz.underlying115 hi hz0 hz1 hz2 rfl (by decide) _ _ _ rfl ((O2.alloc _).alloc _) ⟨wr.heap.size+1,0,none⟩ 1 1 [.map (some wr.heap.size)] rfl rfl (World.news_of_block (new_atK (by simp))) ?k2 ?k3 ?k4 ?k5 ?_)
   case k2=>first | rfl | (intro t ht;simp at ht;subst ht;rfl)
   case k3=>unfold maxLen;omega
   case k4=>omega
   case k5=>simp;omega
   intro v5 w5 ho5 hg5 _
   have NP:=Hid.mk' (NW.out.put (by omega) (by omega) (by omega) hg5 ho5)
   obtain ⟨za,zm,zk,rfl⟩:=owns_slice ho5
   have tb5:=NW.out.tb3 hg5
   have t5:w5.cell? ⟨w1.heap.size+2,0,none⟩=some (.slice va q vk):=by rw [cell_of_row _ _ _ _ _ _ tb5];rfl
   have f5:w5.frozen? ⟨w1.heap.size+2,0,none⟩=false:=frozen_of_row _ _ _ _ _ tb5
   clear hg5 ho5 O2 tb5
   go_wp2_with fail
   exact ⟨⟨q+1,_,_,hlt,by simp,NP⟩,measM_dec _ _ hlt⟩
  ·have hqe:q=nb:=by omega
   subst hqe
   have L0:Hid (∃ m esm ck,Mp Tryz.prog 81 wr (w1.heap.size+1) m esm ck∧Nl m (es.take 0)):=⟨[],#[],0,⟨NW.out.lb,rfl,by simp,by simp,by simp,by simp⟩,⟨fun k v hv=>(by cases hv),fun e he=>(by simp at he)⟩⟩
   go_wp2_with fail
   generalize hW4:wr=W4 at *
   clear hW4
   go_loopw [33] (fun i wr=>∃ j:Nat,j≤es.length∧i = .int .i64 j∧Hid (W4.grownBy wr (some (w1.heap.size+1)))∧Hid (∃ m esm ck,Mp Tryz.prog 81 wr (w1.heap.size+1) m esm ck∧Nl m (es.take j))) (fun i _=>es.length - (intOf i).toNat)
   case atStart=>exact ⟨0,Nat.zero_le _,rfl,⟨rfl,rfl,rfl,Nat.le_refl _,fun _ _ _=>rfl⟩,L0⟩
   case round =>
    obtain ⟨j,hj,rfl,GW,LM⟩:=hrel
    clear L0
    have tb4:=(GW.out.block _ (blk_lt NW.out.tb) (fun e=>by injection e with e;omega)).trans NW.out.tb
    by_cases hjl:j<es.length
    ·obtain ⟨b,off,rfl,hbw,hat⟩:∃ b off,ad=some ⟨b,off,none⟩∧b<w.heap.size ∧ ∀ i,i<es.length→w.cell? ⟨b,off+i*2,none⟩=some (.int .i64 (eat es i).1)∧w.cell? ⟨b,off+i*2+1,none⟩=some (.int .i64 (eat es i).2):=by
      rcases HE.out with h0 | h0
      ·rw [h0] at hjl;simp at hjl
      ·exact h0
     obtain ⟨d0,d1⟩:=hat j hjl
     have hb1:wr.heap[b]? = w.heap[b]? := by
      have s1:=G1.out.size
      have s2:=NW.out.gr.size
      rw [GW.out.block b (by omega) (fun e=>by injection e with e;omega),NW.out.gr.block b (by omega),G1.out.block b hbw]
     rw [← cell_blk hb1] at d0 d1
     have hIe:=HI.out _ (eat_mem hjl)
     have TK:=Hid.mk' (eat_take hjl)
     clear hat
     generalize eat es j=e at *
     obtain ⟨e1,e2⟩:=e
     simp only at d0 d1
     obtain ⟨m,esm,ck,hmp,hnl⟩:=LM.out
     obtain ⟨lk,hlk⟩:=keyE (e1,e2) hIe.1 hIe.2
     obtain ⟨lk2,hlk2⟩:=keyE (e2,e1) hIe.2 hIe.1
     have hws:b<wr.heap.size:=by
      have s1:=G1.out.size
      have s2:=NW.out.gr.size
      have s3:=GW.out.size
      omega
     have hlbl:=hmp.lt
     have ga:Gr wr (wr.alloc (.cells #[.int .i64 e1,.int .i64 e2] 81)).drew:=((Gr.refl wr).alloc _).drew
     have HN1:(wr.alloc (.cells #[.int .i64 e1,.int .i64 e2] 81)).drew.heap[wr.heap.size]? = some (.cells #[.int .i64 e1,.int .i64 e2] 81 (0,0)):=heap_alloc_new wr _
     obtain ⟨m1,esm1,ck1,hup1,hM1,hm1⟩:=Mp.put_any (v:=.slice none 0 0) Tryz.keyedE Tryz.underlying117 (hmp.kept (w':=(wr.alloc (.cells #[.int .i64 e1,.int .i64 e2] 81)).drew) (ga.block _ hmp.lt)) hlk
     unfold pk at hup1
     have tbl:=blk_lt tb4
     have t2:wr.cell? ⟨w1.heap.size+1+1,2,none⟩=some (.map (some (w1.heap.size+1))):=by rw [cell_of_row _ _ _ _ _ _ tb4];rfl
     have HGA:=Hid.mk' ga
     have HHN:=Hid.mk' HN1
     have HTB:=Hid.mk' tb4
     have HM1:=Hid.mk' hM1
     have Hm1:=Hid.mk' hm1
     have HNL:=Hid.mk' hnl
     clear ga HN1 hM1 hm1 hnl hmp LM tb4
     go_wp2_with fail
     go_region
     have gB1:wr.grownBy (setBlock (wr.alloc (.cells #[.int .i64 e1,.int .i64 e2] 81)).drew (w1.heap.size+1) (.map esm1 ck1)) (some (w1.heap.size+1)) :=
      ⟨rfl,rfl,rfl,by simp [setBlock],fun k hk hn=>(setBlock_other (fun e=>hn (by rw [e]))).trans (HGA.out.block k hk)⟩
     have hN5:(setBlock (wr.alloc (.cells #[.int .i64 e1,.int .i64 e2] 81)).drew (w1.heap.size+1) (.map esm1 ck1)).heap[wr.heap.size]? = some (.cells #[.int .i64 e1,.int .i64 e2] 81 (0,0)):=(setBlock_other (by omega)).trans HHN.out
     have hT5:=(gB1.block _ (blk_lt HTB.out) (fun e=>by injection e with e;omega)).trans HTB.out
     have hM5:=HM1.out
     clear hup1 t2 d0 d1 HGA HHN
     generalize (setBlock (wr.alloc (.cells #[.int .i64 e1,.int .i64 e2] 81)).drew (w1.heap.size+1) (.map esm1 ck1))=W5 at *
     obtain ⟨m2,esm2,ck2,hup2,hM2,hm2⟩:=Mp.put_any (v:=.slice none 0 0) Tryz.keyedE Tryz.underlying117 (hM5.kept (w':=W5.drew) rfl) hlk2
     unfold pk at hup2
     have t2:W5.cell? ⟨w1.heap.size+1+1,2,none⟩=some (.map (some (w1.heap.size+1))):=by rw [cell_of_row _ _ _ _ _ _ hT5];rfl
     have n0:W5.cell? ⟨wr.heap.size,0,none⟩=some (.int .i64 e1):=by rw [cell_of_row _ _ _ _ _ _ hN5];rfl
     have n1:W5.cell? ⟨wr.heap.size,1,none⟩=some (.int .i64 e2):=by rw [cell_of_row _ _ _ _ _ _ hN5];rfl
     have GE:Hid (W4.grownBy (setBlock W5.drew (w1.heap.size+1) (.map esm2 ck2)) (some (w1.heap.size+1))) :=
      (GW.out.trans gB1).trans ⟨rfl,rfl,rfl,by simp [setBlock],fun k hk hn=>setBlock_other (fun e=>hn (by rw [e]))⟩
     have LE:Hid (∃ m esm ck,Mp Tryz.prog 81 (setBlock W5.drew (w1.heap.size+1) (.map esm2 ck2)) (w1.heap.size+1) m esm ck∧Nl m (es.take (j+1))):=by
      refine ⟨m2,esm2,ck2,hM2,?_⟩
      rw [TK.out]
      exact HNL.out.step Hm1.out hm2
     clear hM2 hm2 HM1 Hm1 HNL hM5 gB1 hN5 hT5
     go_wp2_with fail
     go_region
     go_wp2_with fail
     exact ⟨⟨j+1,hjl,by simp,GE,LE⟩,measM_dec _ _ hjl⟩
    ·have hje:j=es.length:=by omega
     subst hje
     rw [List.take_length] at LM
     obtain ⟨m,esm,ck,hmp,hnl⟩:=LM.out
     have hml1:Ml ml w1:=G1.out.ml HML.out
     obtain ⟨HB,hcap,MB,r,z1,z2⟩:=fresh ml NW.out (by omega) (by omega) (by omega) (by omega) (by omega) (by omega) hml1 hn1 hn8 HAD.out HED.out HES.out GW.out hmp hnl
     have FE:=Hid.mk' (And.intro z1 ((Fr.gr (r:=fun _=>.no) G1.out).trans z2))
     clear hmp hnl z1 z2 LM tb4
     go_wp2_with fail
     exact bodyPost_ret (v:=.tuple #[.pointer (some ⟨w1.heap.size+2,0,none⟩),.int .i64 0]) (by simp [results,Tryz.results35,go_sem]) rfl ⟨_,HB,hcap,MB,_,_,r,rfl,FE.out⟩
end Go.Proofs.YtecnfgikbmcgoaaGreat
