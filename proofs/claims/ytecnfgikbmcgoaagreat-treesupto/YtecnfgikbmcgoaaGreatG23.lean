import Derived.Test.YtecnfgikbmcgoaaGreatG22
import Derived.Test.YtecnfgikbmcgoaaGreatG16
import Derived.Test.YtecnfgikbmcgoaaGreatG1
import Derived.Test.YtecnfgikbmcgoaaGreatG2
import Derived.Test.YtecnfgikbmcgoaaGreatG21
import Derived.Conc.EventLaws
import Derived.Test.YtecnfgikbmcgoaaGreatG15
import Derived.OwnWalk
import Derived.LoopN
import Derived.Test.YtecnfgikbmcgoaaGreatG20
import Derived.Test.YtecnfgikbmcgoaaGreatG7
namespace Go.Proofs.YtecnfgikbmcgoaaGreat
open Go.RowKit
open Go.Maps (Keyed)
set_option maxRecDepth 100000 in
set_option maxHeartbeats 4000000 in
theorem Subscribe_twice (T:Tc) (r:Nat→Rl) (w:World) (cls:List Cl) (s:Ts) (x:Cl) (id:Int) (f:List Wnt) (ad:Option Addr) (cap:Nat) (h:Hw)
  (hT:Tw T r w cls s) (hx:x∈cls) (hid:I64 id) (hf:FiM w ad f) (hh:h∈s.held x.at') (hk:h.key=(x.num,id)) :
  Calls Tryz.prog 22 #[.pointer (some ⟨T.TB,0,none⟩),.int .i64 x.num,.int .i64 id,.slice ad f.length cap] w fun e w'=>e = .returned (.int .i64 6)∧Gr w w':=by
 obtain ⟨Xs,qs,hT,hV⟩:=hT
 have hnum:=(hT.k.num x hx).1
 have hb:=(hT.k.num x hx).2
 have hnb:=hT.b.nb8
 have hlu:=hT.k.find hx
 obtain ⟨⟨h',a',c'⟩,hy,rfl⟩:=(hV.held _ hb h).1 hh
 have c1:=hT.b.c1
 obtain ⟨fb,fo,rfl,hfb,hfa⟩:=hf.at'
 have hlen:=hf.len
 have hchk:chk f=0:=by simp [chk,hf.ok]
 have CK:=Hid.mk' (Check_ad f (some ⟨fb,fo,none⟩) cap w (by unfold maxLen;omega) (Or.inr ⟨fb,fo,rfl,hfb,hfa⟩) hf.wf)
 rw [hchk] at CK
 have HT:=Hid.mk' hT
 have HV:=Hid.mk' hV
 have HF:=Hid.mk' hf
 have HX:=Hid.mk' hx
 have HK:=Hid.mk' hk
 have HY:=Hid.mk' hy
 have HI:=Hid.mk' (And.intro hnum hid)
 clear hT hV hf hh hk hy hx hnum hid hfa hchk
 simp only at *
 go_enter Tryz.func22,Tryz.ntmps22
 go_wp2_with fail
 refine CK.out.mono ?_
 rintro e w1 ⟨rfl,g1⟩
 have ga:=g1.alloc (.cells #[.int .i64 x.num,.int .i64 id] 112)
 have HB:=heap_alloc_new w1 (.cells #[.int .i64 x.num,.int .i64 id] 112)
 have hsz:(w1.alloc (.cells #[.int .i64 x.num,.int .i64 id] 112)).heap.size=w1.heap.size+1:=by simp
 have G1:=Hid.mk' ga
 have HHB:=Hid.mk' HB
 clear CK g1 ga HB hlu c1
 go_wp2_with fail
 generalize (w1.alloc (.cells #[.int .i64 x.num,.int .i64 id] 112))=W1 at *
 have T1:=HT.out.gr G1.out
 obtain ⟨es,clock,hmp⟩:=(T1.h.at' x.at' hb).2
 obtain ⟨lk,hlk⟩:=keyK (x.num,id) HI.out.1 HI.out.2
 have hyes:(pk (x.num,id),.agg (hv h' a' c'))∈(Xs x.at').map mv:=by
  rw [← HK.out];exact List.mem_map.2 ⟨_,HY.out,rfl⟩
 have gz:Gr W1 (W1.alloc (.cells #[.int .i64 0,.int .i64 0,.slice none 0 0,.int .i64 0] 121)):=(Gr.refl W1).alloc _
 have hlu:=Mp.look_yes Tryz.keyedK Tryz.underlying123 (hmp.kept (w':=W1.drew) rfl) hlk hyes true
 have hlu2:=Mp.look_yes Tryz.keyedK Tryz.underlying123 (hmp.kept (w':=(W1.alloc (.cells #[.int .i64 0,.int .i64 0,.slice none 0 0,.int .i64 0] 121)).drew) (gz.block _ hmp.lt)) hlk hyes true
 unfold pk hv at hlu hlu2
 have hTB:=T1.tlt
 have hHB:=T1.hlt
 have hws:w1.heap.size<W1.heap.size:=by omega
 have c0:=T1.b.c0
 have cb:=T1.b.hb x.at' hb
 obtain ⟨hcr,hcb⟩:=T1.k.blk x HX.out
 have hclt:=blk_lt hcb
 have k0:W1.cell? ⟨w1.heap.size,0,none⟩=some (.int .i64 x.num):=by rw [cell_of_row _ _ _ _ _ _ HHB.out];rfl
 have k1:W1.cell? ⟨w1.heap.size,1,none⟩=some (.int .i64 id):=by rw [cell_of_row _ _ _ _ _ _ HHB.out];rfl
 have ka:W1.cell? ⟨x.blk,0,none⟩=some (.int .i64 x.at'):=by rw [cell_of_row _ _ _ _ _ _ hcb];rfl
 have c0':=(gz.cell (p:=⟨T.TB,0,none⟩) hTB).trans c0
 have cb':=(gz.cell (p:=⟨T.HB,x.at',none⟩) hHB).trans cb
 have k0':=(gz.cell (p:=⟨w1.heap.size,0,none⟩) hws).trans k0
 have k1':=(gz.cell (p:=⟨w1.heap.size,1,none⟩) hws).trans k1
 have ka':=(gz.cell (p:=⟨x.blk,0,none⟩) hclt).trans ka
 have HT1:=Hid.mk' T1
 have HCB:=Hid.mk' hcb
 clear T1 hmp hyes gz hcr hcb
 go_region
 all_goals
  clear hlu hlu2 c0' cb' k0' k1' ka' c0 cb k0 k1 ka
  have gz:Gr W1 (W1.alloc (.cells #[.int .i64 h'.key.1,.int .i64 h'.key.2,.slice a' h'.f.length c',.int .i64 h'.fr] 121)).drew:=((Gr.refl W1).alloc _).drew
  have G2:=Hid.mk' (Gr.call G1.out gz)
  clear gz
  go_wp2_with fail
  go_ret
  exact ⟨rfl,G2.out⟩
set_option maxRecDepth 100000 in
set_option maxHeartbeats 4000000 in
theorem Unsubscribe_none (T:Tc) (r:Nat→Rl) (w:World) (cls:List Cl) (s:Ts) (x:Cl) (id:Int)
  (hT:Tw T r w cls s) (hx:x∈cls) (hid:I64 id) (hn:∀ g∈s.held x.at',g.key≠(x.num,id)) :
  Calls Tryz.prog 18 #[.pointer (some ⟨T.TB,0,none⟩),.int .i64 x.num,.int .i64 id] w fun e w'=>e = .returned (.int .i64 5)∧Gr w w':=by
 obtain ⟨Xs,qs,hT,hV⟩:=hT
 have hnum:=(hT.k.num x hx).1
 have hb:=(hT.k.num x hx).2
 have hnb:=hT.b.nb8
 have hlu0:=hT.k.find hx
 have c1:=hT.b.c1
 have ga:Gr w (w.alloc (.cells #[.int .i64 x.num,.int .i64 id] 112)):=(Gr.refl w).alloc _
 have HB:=heap_alloc_new w (.cells #[.int .i64 x.num,.int .i64 id] 112)
 have hsz:(w.alloc (.cells #[.int .i64 x.num,.int .i64 id] 112)).heap.size=w.heap.size+1:=by simp
 have HT:=Hid.mk' hT
 have HV:=Hid.mk' hV
 have HX:=Hid.mk' hx
 have HN:=Hid.mk' hn
 have HI:=Hid.mk' (And.intro hnum hid)
 have G1:=Hid.mk' ga
 have HHB:=Hid.mk' HB
 clear hT hV hn hx hnum hid ga HB
 go_enter Tryz.func18,Tryz.ntmps18
 go_wp2_with fail
 generalize (w.alloc (.cells #[.int .i64 x.num,.int .i64 id] 112))=W1 at *
 have T1:=HT.out.gr G1.out
 obtain ⟨es,clock,hmp⟩:=(T1.h.at' x.at' hb).2
 obtain ⟨lk,hlk⟩:=keyK (x.num,id) HI.out.1 HI.out.2
 have hno:∀ v,(pk (x.num,id),v) ∉ (Xs x.at').map mv:=by
  intro v hv'
  obtain ⟨y,hy,e⟩:=List.mem_map.1 hv'
  injection e with e1 e2
  exact HN.out y.1 ((HV.out.held _ hb _).2 ⟨y,hy,rfl⟩) (pk_inj e1)
 have gz:Gr W1 (W1.alloc (.cells #[.int .i64 0,.int .i64 0,.slice none 0 0,.int .i64 0] 121)):=(Gr.refl W1).alloc _
 have hlu:=Mp.look_no Tryz.keyedK Tryz.underlying123 (hmp.kept (w':=W1.drew) rfl) hlk hno Tryz.zeroHd true
 have hlu2:=Mp.look_no Tryz.keyedK Tryz.underlying123 (hmp.kept (w':=(W1.alloc (.cells #[.int .i64 0,.int .i64 0,.slice none 0 0,.int .i64 0] 121)).drew) (gz.block _ hmp.lt)) hlk hno Tryz.zeroHd true
 unfold pk at hlu hlu2
 have hTB:=T1.tlt
 have hHB:=T1.hlt
 have hws:w.heap.size<W1.heap.size:=by omega
 have c0:=T1.b.c0
 have cb:=T1.b.hb x.at' hb
 obtain ⟨hcr,hcb⟩:=T1.k.blk x HX.out
 have hclt:=blk_lt hcb
 have k0:W1.cell? ⟨w.heap.size,0,none⟩=some (.int .i64 x.num):=by rw [cell_of_row _ _ _ _ _ _ HHB.out];rfl
 have k1:W1.cell? ⟨w.heap.size,1,none⟩=some (.int .i64 id):=by rw [cell_of_row _ _ _ _ _ _ HHB.out];rfl
 have ka:W1.cell? ⟨x.blk,0,none⟩=some (.int .i64 x.at'):=by rw [cell_of_row _ _ _ _ _ _ hcb];rfl
 have c0':=(gz.cell (p:=⟨T.TB,0,none⟩) hTB).trans c0
 have cb':=(gz.cell (p:=⟨T.HB,x.at',none⟩) hHB).trans cb
 have k0':=(gz.cell (p:=⟨w.heap.size,0,none⟩) hws).trans k0
 have k1':=(gz.cell (p:=⟨w.heap.size,1,none⟩) hws).trans k1
 have ka':=(gz.cell (p:=⟨x.blk,0,none⟩) hclt).trans ka
 clear T1 hmp hno gz hcr hcb hlu0 c1
 go_region
 all_goals
  clear hlu hlu2 c0' cb' k0' k1' ka' c0 cb k0 k1 ka
  have gz:Gr W1 (W1.alloc (.cells #[.int .i64 0,.int .i64 0,.slice none 0 0,.int .i64 0] 121)).drew:=((Gr.refl W1).alloc _).drew
  have G2:=Hid.mk' (Gr.call G1.out gz)
  clear gz
  go_wp2_with fail
  go_ret
  exact ⟨rfl,G2.out⟩
theorem Unsubscribe_t (T:Tc) (r:Nat→Rl) (w:World) (cs:List (Pc (List Atr))) (s:Ts) (c:Pc (List Atr)) (id:Int) (h:Hw)
  (hT:Tf T r w cs s) (hc:c∈cs) (hid:I64 id) (hs:Srt (s.held c.at')) (hh:h∈s.held c.at') (hk:h.key=(c.num,id)) (hm:Sm T s) :
  Calls Tryz.prog 18 #[.pointer (some ⟨T.TB,0,none⟩),.int .i64 c.num,.int .i64 id] w fun e w'=>e = .returned (.int .i64 0) ∧ ∃ r',Tf T r' w' cs (s.turn cov T.adj c.at' (del h.key (s.held c.at')))∧Fr r r' w w':=by
 obtain ⟨cls,x,h1,rfl,hx,rfl⟩:=hT.find hc
 refine (Unsubscribe_ok T r w cls s x id h h1 hx hid hs hh hk hm).mono ?_
 rintro y w' ⟨h1,r',h2,h3⟩
 exact ⟨h1,r',⟨cls,h2,rfl⟩,h3⟩
end Go.Proofs.YtecnfgikbmcgoaaGreat
namespace Go.Proofs.YtecnfgikbmcgoaaGreat
open Go.RowKit
theorem Qr.cellAt {w:World} {e:TypeId} {size:Nat} {R:Nat→Prop} {g off n cap:Nat} {xs:List Value} (h:Qr w e size R (.slice (some ⟨g,off,none⟩) n cap) n xs) {j:Nat} {u:Value} (hu:xs[j]? = some u):w.cell? ⟨g,off+j,none⟩=some u:=by
 rcases h.2 with ⟨h2,_⟩ | ⟨g',off',cap',cur,hv,_,hg,_,_,_,ht⟩
 ·cases h2
 ·injection hv with hv _ _
  injection hv with hv
  injection hv with h1 h2
  subst h1 h2
  rw [cell_of_row w g (off+j) cur e (0,0) hg]
  rw [← ht,List.getElem?_take] at hu
  split at hu
  ·rw [List.getElem?_drop] at hu;simpa using hu
  ·cases hu
theorem FiM.blk {w w':World} {b off:Nat} {l:List Wnt} (h:FiM w (some ⟨b,off,none⟩) l) (hs:w.heap.size≤w'.heap.size) (hb:w'.heap[b]? = w.heap[b]?):FiM w' (some ⟨b,off,none⟩) l:=by
 obtain ⟨b',off',e,h2,h3⟩:=h.at'
 injection e with e
 injection e with e1 e2
 subst e1 e2
 exact ⟨⟨b,off,rfl,Nat.lt_of_lt_of_le h2 hs,h3.blk hb⟩,h.wf,h.ok⟩
theorem FiM.lt {w:World} {b off:Nat} {l:List Wnt} (h:FiM w (some ⟨b,off,none⟩) l):b<w.heap.size:=by
 obtain ⟨b',off',e,h2,h3⟩:=h.at'
 injection e with e
 injection e with e1 e2
 rw [e1];exact h2
theorem wpList_append_q {P:Program} {w:World} {ops:Array Oper} {rest:List Oper} {o:Oper} {a:Act} {Q:Exit→Act→World→Prop} (hgd:o.guard=none) (s x:Operand) (t:TypeId)
  (ho:o.op = .call { callee:=.builtin .append,args:=#[s,x],argTypes:=#[t,t] })
  (e:TypeId) (i:TypeInfo) (z:Value) (size bytes:Nat) (ht:P.underlying t=some (.slice e)) (hi:P.info? e=some i) (hz:i.zero=some z)
  (hsize:i.size=size) (hby:i.bytes=bytes) (hzs:z.cells.size=size) (R:Nat→Prop)
  (v:Value) (n:Nat) (xs:List Value) (hs:a.eval s=v) (hown:Qr w e size R v n xs)
  (ad:Addr) (m c:Nat) (news:List Value) (hx:a.eval x = .slice (some ad) m c) (hm:0<m) (hl:news.length=m*size) (hnews:∀ j u,news[j]? = some u→w.cell? (ad.add j)=some u) (h1:∀ u∈news,u.oneCell'=true)
  (h63:n+m≤maxLen) (hbytes:(n+m)*bytes≤140737488355328)
  (h:∀ v' w',Qr w' e size (fun k=>v'.ownBlock=some k) v' (n+m) (xs++news)→w.grownBy w' v.ownBlock→(v'.ownBlock=v.ownBlock∨v'.ownBlock=some w.heap.size)→Qr w' e size R v n xs→wpList P ops Q rest (a.put o.dst v') w'):wpList P ops Q (o::rest) a w :=
 wpList_plain hgd fun _ hK=>wp_append_q w s x t ho e i z size bytes ht hi hz hsize hby hzs R v n xs hs hown ad m c news hx hm hl hnews h1 h63 hbytes fun v' w' h2 h3 h4 h5=>hK _ _ (h v' w' h2 h3 h4 h5)
def msk (x:Option Nat) (r:Nat→Rl):Nat→Rl:=fun k=>if x=some k then .cm else r k
theorem msk_no {x:Option Nat} {r:Nat→Rl} {k:Nat} (h:msk x r k = .no∨msk x r k = .fx):x≠some k∧(r k = .no∨r k = .fx):=by
 unfold msk at h
 by_cases e:x=some k
 ·rw [if_pos e] at h;rcases h with h | h <;> cases h
 ·rw [if_neg e] at h;exact ⟨e,h⟩
theorem Tf.apart {T:Tc} {r r1 r1':Nat→Rl} {w w':World} {cs:List (Pc (List Atr))} {s:Ts} (h:Tf T r w cs s) (g:Fr r1 r1' w w') (ha:∀ k,r k = .no∨r1 k = .no) (h0:r1 0 = .no):Tf T r w' cs s:=by
 obtain ⟨cls,⟨Xs,qs,t,v⟩,e⟩:=h
 exact ⟨cls,⟨Xs,qs,t.apart g ha h0,v⟩,e⟩
theorem frz0 {w:World} {b:Nat} {cur:Array Value} {e:TypeId} (h:w.heap[b]? = some (.cells cur e (0,0))) (o:Nat):w.frozen? ⟨b,o,none⟩=false:=by simp [World.frozen?, h]
theorem Qr.rowAt {w:World} {e:TypeId} {size:Nat} {R:Nat→Prop} {ad:Option Addr} {n cap:Nat} {xs:List Value} (h:Qr w e size R (.slice ad n cap) n xs):RowAt w ad xs:=by
 rcases h.2 with ⟨_,h3⟩ | ⟨g,off,cap',cur,hv,_,hg,_⟩
 ·left
  have:=h.1
  rw [h3,Nat.zero_mul] at this
  exact List.eq_nil_of_length_eq_zero this
 ·right
  injection hv with hv _ _
  subst hv
  exact ⟨g,off,rfl,blk_lt hg,fun i v hi=>h.cellAt hi⟩
theorem Qr.set {w:World} {e:TypeId} {size:Nat} {R:Nat→Prop} {g off n cap:Nat} {xs:List Value} (h:Qr w e size R (.slice (some ⟨g,off,none⟩) n cap) n xs) (j:Nat) (u:Value):Qr (w.setCell ⟨g,off+j,none⟩ u) e size R (.slice (some ⟨g,off,none⟩) n cap) n (xs.set j u):=by
 refine ⟨by rw [List.length_set];exact h.1,?_⟩
 rcases h.2 with ⟨h2,_⟩ | ⟨g',off',cap',cur,hv,hR,hg,h4,h5,h6,h7⟩
 ·cases h2
 ·injection hv with hv _ hc
  injection hv with hv
  injection hv with h1 h2
  subst h1 h2 hc
  refine Or.inr ⟨g,off,cap,cur.setIfInBounds (off+j) u,rfl,hR,heap_setCell_same _ _ _ _ _ _ hg,h4,h5,by rw [Array.size_setIfInBounds];exact h6,?_⟩
  rw [Array.toList_setIfInBounds,List.drop_set,if_neg (by omega),Nat.add_sub_cancel_left,List.take_set,h7]
theorem Qr.some' {w:World} {e:TypeId} {size:Nat} {R:Nat→Prop} {v:Value} {n:Nat} {xs:List Value} (h:Qr w e size R v n xs) (hn:0<n):∃ g off cap cur,v = .slice (some ⟨g,off,none⟩) n cap∧R g∧w.heap[g]? = some (.cells cur e (0,0))∧off+cap*size≤cur.size∧n≤cap:=by
 rcases h.2 with ⟨_,h3⟩ | ⟨g,off,cap,cur,hv,hR,hg,h4,_,h6,_⟩
 ·omega
 ·exact ⟨g,off,cap,cur,hv,hR,hg,h6,h4⟩
def rmcells (x:Rms):List Value :=
 match x.ms with
 | .sub k f=>[.int .i64 1,.int .i64 k.1,.int .i64 k.2,.slice x.ad f.length x.cap,.slice none 0 0]
 | .uns k=>[.int .i64 2,.int .i64 k.1,.int .i64 k.2,.slice none 0 0,.slice none 0 0]
 | .ev e=>[.int .i64 3,.int .i64 0,.int .i64 0,.slice none 0 0,.slice x.ad e.length x.cap]
theorem rmcells_len (x:Rms):(rmcells x).length=5:=by
 unfold rmcells;split <;> rfl
structure FiO (A:Nat→Prop) (w:World) (ad:Option Addr) (l:List Wnt):Prop where
 m:FiM w ad l
 r:∃ b off,ad=some ⟨b,off,none⟩∧A b
theorem FiO.keep {A:Nat→Prop} {w w':World} {ad:Option Addr} {l:List Wnt} (h:FiO A w ad l) (hs:w.heap.size≤w'.heap.size) (hk:∀ k,k<w.heap.size→A k→w'.heap[k]? = w.heap[k]?):FiO A w' ad l:=by
 obtain ⟨hm,b,off,rfl,ha⟩:=h
 exact ⟨hm.blk hs (hk b hm.lt ha),b,off,rfl,ha⟩
structure EvO (A:Nat→Prop) (w:World) (ad:Option Addr) (l:List Atr):Prop where
 m:EvM w ad l
 r:∃ b off,ad=some ⟨b,off,none⟩∧A b
theorem EvO.keep {A:Nat→Prop} {w w':World} {ad:Option Addr} {l:List Atr} (h:EvO A w ad l) (hs:w.heap.size≤w'.heap.size) (hk:∀ k,k<w.heap.size→A k→w'.heap[k]? = w.heap[k]?):EvO A w' ad l:=by
 obtain ⟨⟨⟨b,off,h1,h2,h3⟩,hwf,hok⟩,b',off',h4,h5⟩:=h
 have e:=h1.symm.trans h4
 injection e with e
 injection e with e1 e2
 subst e1
 exact ⟨⟨⟨b,off,h1,Nat.lt_of_lt_of_le h2 hs,h3.blk (hk b h2 h5)⟩,hwf,hok⟩,b,off,h1,h5⟩
def RmOk (A:Nat→Prop) (w:World) (x:Rms):Prop :=
 match x.ms with
 | .sub _ f=>FiO A w x.ad f
 | .uns _=>True
 | .ev e=>EvO A w x.ad e
theorem RmOk.keep {A:Nat→Prop} {w w':World} {x:Rms} (h:RmOk A w x) (hs:w.heap.size≤w'.heap.size) (hk:∀ k,k<w.heap.size→A k→w'.heap[k]? = w.heap[k]?):RmOk A w' x:=by
 unfold RmOk at h ⊢
 split
 ·rename_i k f e;rw [e] at h;exact FiO.keep h hs hk
 ·trivial
 ·rename_i v e;rw [e] at h;exact EvO.keep h hs hk
def RowF (R:Nat→Rl) (w:World) (ad:Option Addr) (cs:List Value):Prop:=cs=[] ∨ ∃ b off,ad=some ⟨b,off,none⟩∧R b = .fx∧b<w.heap.size ∧ ∀ i v,cs[i]? = some v→w.cell? ⟨b,off+i,none⟩=some v
theorem RowF.at' {R:Nat→Rl} {w:World} {ad:Option Addr} {cs:List Value} (h:RowF R w ad cs):RowAt w ad cs:=by
 rcases h with h | ⟨b,off,h1,_,h2,h3⟩
 ·exact Or.inl h
 ·exact Or.inr ⟨b,off,h1,h2,h3⟩
theorem RowF.keep {R R':Nat→Rl} {w w':World} {ad:Option Addr} {cs:List Value} (h:RowF R w ad cs) (hs:w.heap.size≤w'.heap.size) (hk:∀ k,k<w.heap.size→R k = .fx→w'.heap[k]? = w.heap[k]?) (hr:∀ k,k<w.heap.size→R' k=R k):RowF R' w' ad cs:=by
 rcases h with h | ⟨b,off,h1,h0,h2,h3⟩
 ·exact Or.inl h
 ·exact Or.inr ⟨b,off,h1,(hr b h2).trans h0,Nat.lt_of_lt_of_le h2 hs,fun i v hi=>by rw [cell_blk (hk b h2 h0)];exact h3 i v hi⟩
theorem RowF.of_owns {w:World} {lo n size:Nat} {e:TypeId} {va:Option Addr} {vk:Nat} {cs:List Value} (h:w.ownsRow lo e size (.slice va n vk) n cs) {R:Nat→Rl} (hR:∀ k,Value.ownBlock (.slice va n vk)=some k→R k = .fx):RowF R w va cs:=by
 rcases h.2 with ⟨hv,hn⟩ | ⟨g,cap,cur,hv,_,hg,_,_,_,ht⟩
 ·left
  have:=h.1
  rw [hn,Nat.zero_mul] at this
  exact List.eq_nil_of_length_eq_zero this
 ·right
  injection hv with hv _ _
  subst hv
  refine ⟨g,0,rfl,hR g rfl,blk_lt hg,fun i v hi=>?_⟩
  rw [cell_of_row w g (0+i) cur e (0,0) hg]
  rw [← ht,List.getElem?_take] at hi
  split at hi
  ·simpa using hi
  ·cases hi
theorem RowF.of_qr {w:World} {n size:Nat} {e:TypeId} {P:Nat→Prop} {va:Option Addr} {vk:Nat} {cs:List Value} (h:Qr w e size P (.slice va n vk) n cs) {R:Nat→Rl} (hR:∀ k,P k→R k = .fx):RowF R w va cs:=by
 rcases h.2 with ⟨_,hn⟩ | ⟨g,off,cap,cur,hv,hP,hg,_⟩
 ·left
  have:=h.1
  rw [hn,Nat.zero_mul] at this
  exact List.eq_nil_of_length_eq_zero this
 ·right
  injection hv with hv _ _
  subst hv
  exact ⟨g,off,rfl,hR g hP,blk_lt hg,fun i v hi=>h.cellAt hi⟩
structure Rc where
 nb:Nat
 TB:Nat
 HB:Nat
 hcap:Nat
structure Rb (A:Nat→Prop) (C:Rc) (R:Nat→Rl) (w:World) (hv:Nat→Value) (lv cv:Value):Prop where
 nb8:C.nb≤8
 pos:0<C.nb
 t:w.heap[C.TB]? = some (.cells #[.slice (some ⟨C.HB,0,none⟩) C.nb C.hcap,lv,cv] 165 (0,0))
 rT:R C.TB = .cm
 h:∃ cur,w.heap[C.HB]? = some (.cells cur 199 (0,0)) ∧ ∀ b,b<C.nb→cur[b]? = some (hv b)
 rH:R C.HB = .hm 0
 top:∀ k,w.heap.size≤k→R k = .no
 aR:∀ k,A k→R k = .no
 aL:∀ k,A k→k<w.heap.size
structure Rhh (A:Nat→Prop) (nb:Nat) (R:Nat→Rl) (w:World) (ads:Nat→Option Addr × Nat) (Xs:Nat→List Hm):Prop where
 row:∀ b,b<nb→RowF R w (ads b).1 (hcells (Xs b))
 fi:∀ b,b<nb → ∀ x∈Xs b,FiO A w x.2.1 x.1.f
structure Rlk (A:Nat→Prop) (R:Nat→Rl) (w:World) (lv:Value) (Ls:List Rln):Prop where
 lk:Qr w 196 4 (fun k=>R k = .lm) lv Ls.length (lcellsR Ls)
 qu:∀ j,j<Ls.length→Qr w 209 5 (fun k=>R k = .qu j 0) (.slice (lnat Ls j).qad (lnat Ls j).q.length (lnat Ls j).qcap) (lnat Ls j).q.length ((lnat Ls j).q.flatMap rmcells)
 ms:∀ l∈Ls,∀ x∈l.q,RmOk A w x
 td:∀ l∈Ls,RowF R w l.tad (kcells l.told)
structure Rck (A:Nat→Prop) (R:Nat→Rl) (w:World) (cv:Value) (cs:List Rcl):Prop where
 cl:Qr w 167 4 (fun k=>R k = .cl 0) cv cs.length (rcells cs)
 bx:∀ j,j<cs.length→Qr w 91 1 (fun k=>R k = .ch j) (.slice (kat cs j).bad (kat cs j).box.length (kat cs j).bcap) (kat cs j).box.length ((kat cs j).box.map bv)
 be:∀ c∈cs,∀ x∈c.box,EvO A w x.2.1 x.1
structure Rt (A:Nat→Prop) (C:Rc) (R:Nat→Rl) (w:World) (ads:Nat→Option Addr × Nat) (Xs:Nat→List Hm) (lv:Value) (Ls:List Rln) (cv:Value) (cs:List Rcl):Prop where
 b:Rb A C R w (fun b=>.slice (ads b).1 (Xs b).length (ads b).2) lv cv
 h:Rhh A C.nb R w ads Xs
 l:Rlk A R w lv Ls
 k:Rck A R w cv cs
theorem Rb.keep {A:Nat→Prop} {C:Rc} {R R':Nat→Rl} {w w':World} {hv:Nat→Value} {lv cv:Value} (h:Rb A C R w hv lv cv) (hs:w.heap.size≤w'.heap.size) (hk:∀ k,k<w.heap.size→(R k = .cm∨R k = .hm 0)→w'.heap[k]? = w.heap[k]?) (hr:∀ k,k<w.heap.size→R' k=R k) (ht:∀ k,w'.heap.size≤k→R' k = .no) (ha:∀ k,A k→R' k = .no):Rb A C R' w' hv lv cv:=by
 obtain ⟨cur,h1,h2⟩:=h.h
 exact ⟨h.nb8,h.pos,(hk _ (blk_lt h.t) (Or.inl h.rT)).trans h.t,(hr _ (blk_lt h.t)).trans h.rT,⟨cur,(hk _ (blk_lt h1) (Or.inr h.rH)).trans h1,h2⟩,(hr _ (blk_lt h1)).trans h.rH,ht,ha,fun k hk=>Nat.lt_of_lt_of_le (h.aL k hk) hs⟩
theorem Rhh.keep {A:Nat→Prop} {nb:Nat} {R R':Nat→Rl} {w w':World} {ads:Nat→Option Addr × Nat} {Xs:Nat→List Hm} (h:Rhh A nb R w ads Xs) (hs:w.heap.size≤w'.heap.size) (hk:∀ k,k<w.heap.size→(R k = .fx∨A k)→w'.heap[k]? = w.heap[k]?) (hr:∀ k,k<w.heap.size→R' k=R k):Rhh A nb R' w' ads Xs :=
 ⟨fun b hb=>(h.row b hb).keep hs (fun k h1 h2=>hk k h1 (Or.inl h2)) hr,fun b hb x hx=>(h.fi b hb x hx).keep hs (fun k h1 h2=>hk k h1 (Or.inr h2))⟩
theorem Rlk.keep {A:Nat→Prop} {R R':Nat→Rl} {w w':World} {lv:Value} {Ls:List Rln} (h:Rlk A R w lv Ls) (hs:w.heap.size≤w'.heap.size) (hk:∀ k,k<w.heap.size→(R k = .lm∨(∃ j,R k = .qu j 0)∨R k = .fx∨A k)→w'.heap[k]? = w.heap[k]?) (hr:∀ k,k<w.heap.size→R' k=R k):Rlk A R' w' lv Ls :=
 ⟨h.lk.kept fun g hg hR=>⟨hk g hg (Or.inl hR),(hr g hg).trans hR⟩,fun j hj=>(h.qu j hj).kept fun g hg hR=>⟨hk g hg (Or.inr (Or.inl ⟨j,hR⟩)),(hr g hg).trans hR⟩,fun l hl x hx=>(h.ms l hl x hx).keep hs (fun k h1 h2=>hk k h1 (Or.inr (Or.inr (Or.inr h2)))),fun l hl=>(h.td l hl).keep hs (fun k h1 h2=>hk k h1 (Or.inr (Or.inr (Or.inl h2)))) hr⟩
theorem Rck.keep {A:Nat→Prop} {R R':Nat→Rl} {w w':World} {cv:Value} {cs:List Rcl} (h:Rck A R w cv cs) (hs:w.heap.size≤w'.heap.size) (hk:∀ k,k<w.heap.size→(R k = .cl 0∨(∃ j:Nat,R k = .ch j)∨A k)→w'.heap[k]? = w.heap[k]?) (hr:∀ k,k<w.heap.size→R' k=R k):Rck A R' w' cv cs :=
 ⟨h.cl.kept fun g hg hR=>⟨hk g hg (Or.inl hR),(hr g hg).trans hR⟩,fun j hj=>(h.bx j hj).kept fun g hg hR=>⟨hk g hg (Or.inr (Or.inl ⟨j,hR⟩)),(hr g hg).trans hR⟩,fun c hc x hx=>(h.be c hc x hx).keep hs (fun k h1 h2=>hk k h1 (Or.inr (Or.inr h2)))⟩
theorem Rt.gr {A:Nat→Prop} {C:Rc} {R:Nat→Rl} {w w':World} {ads:Nat→Option Addr × Nat} {Xs:Nat→List Hm} {lv cv:Value} {Ls:List Rln} {cs:List Rcl} (h:Rt A C R w ads Xs lv Ls cv cs) (g:Gr w w'):Rt A C R w' ads Xs lv Ls cv cs :=
 ⟨h.b.keep g.size (fun k hk _=>g.block k hk) (fun _ _=>rfl) (fun k hk=>h.b.top k (Nat.le_trans g.size hk)) h.b.aR,h.h.keep g.size (fun k hk _=>g.block k hk) (fun _ _=>rfl),h.l.keep g.size (fun k hk _=>g.block k hk) (fun _ _=>rfl),h.k.keep g.size (fun k hk _=>g.block k hk) (fun _ _=>rfl)⟩
theorem Rt.apart {A:Nat→Prop} {C:Rc} {R r1 r1':Nat→Rl} {w w':World} {ads:Nat→Option Addr × Nat} {Xs:Nat→List Hm} {lv cv:Value} {Ls:List Rln} {cs:List Rcl} (h:Rt A C R w ads Xs lv Ls cv cs) (g:Fr r1 r1' w w') (ha:∀ k,R k = .no∨r1 k = .no) (hA:∀ k,A k→r1 k = .no):Rt A C R w' ads Xs lv Ls cv cs:=by
 have e:∀ k,k<w.heap.size→(R k ≠ .no∨A k)→w'.heap[k]? = w.heap[k]? := fun k hk hr=>g.keep k hk (Or.inl (by
  rcases hr with hr | hr
  ·exact (ha k).resolve_left hr
  ·exact hA k hr))
 have ne:∀ {k:Nat} {x:Rl},R k=x→x ≠ .no→R k ≠ .no:=fun e hx=>by rw [e];exact hx
 refine ⟨h.b.keep g.size (fun k hk hr=>e k hk ?_) (fun _ _=>rfl) (fun k hk=>h.b.top k (Nat.le_trans g.size hk)) h.b.aR,h.h.keep g.size (fun k hk hr=>e k hk ?_) (fun _ _=>rfl),h.l.keep g.size (fun k hk hr=>e k hk ?_) (fun _ _=>rfl),h.k.keep g.size (fun k hk hr=>e k hk ?_) (fun _ _=>rfl)⟩
 ·rcases hr with hr | hr <;> exact Or.inl (ne hr (fun e=>by cases e))
 ·rcases hr with hr | hr
  ·exact Or.inl (ne hr (fun e=>by cases e))
  ·exact Or.inr hr
 ·rcases hr with hr | ⟨j,hr⟩ | hr | hr
  ·exact Or.inl (ne hr (fun e=>by cases e))
  ·exact Or.inl (ne hr (fun e=>by cases e))
  ·exact Or.inl (ne hr (fun e=>by cases e))
  ·exact Or.inr hr
 ·rcases hr with hr | ⟨j,hr⟩ | hr
  ·exact Or.inl (ne hr (fun e=>by cases e))
  ·exact Or.inl (ne hr (fun e=>by cases e))
  ·exact Or.inr hr
def setQ (l:Rln) (q:List Rms) (a:Option Addr) (c:Nat):Rln:={ l with q:=q,qad:=a,qcap:=c }
def setT (l:Rln) (t:List Ky) (a:Option Addr) (c:Nat):Rln:={ l with told:=t,tad:=a,tcap:=c }
theorem lnat_set {Ls:List Rln} {k:Nat} (hk:k<Ls.length) (l:Rln) (j:Nat):lnat (Ls.set k l) j=if j=k then l else lnat Ls j:=by
 unfold lnat
 rw [List.getD_eq_getElem?_getD,List.getElem?_set]
 by_cases e:k=j
 ·subst e;simp [hk]
 ·rw [if_neg e,if_neg (fun h=>e h.symm),List.getD_eq_getElem?_getD]
theorem lcellsR_setQ (q:List Rms) (a:Option Addr) (c:Nat):∀ (Ls:List Rln) (k:Nat),k<Ls.length→lcellsR (Ls.set k (setQ (lnat Ls k) q a c))=(lcellsR Ls).set (k*4+2) (.slice a q.length c)
 | [],k,h=>by simp at h
 | x::l,0,_=>by simp [lcellsR,lcellR,setQ,lnat]
 | x::l,k+1,h=>by
  have ih:=lcellsR_setQ q a c l k (by simpa using h)
  have e:(k+1)*4+2=k*4+2+4:=by omega
  have hk:lnat (x::l) (k+1)=lnat l k:=by simp [lnat]
  have c1:∀ (y:Rln) (t:List Rln),lcellsR (y::t)=lcellR y++lcellsR t:=fun y t=>by simp [lcellsR]
  rw [List.set_cons_succ,hk,c1,c1,ih,e]
  simp [lcellR]
theorem lcellsR_setT (q:List Ky) (a:Option Addr) (c:Nat):∀ (Ls:List Rln) (k:Nat),k<Ls.length→lcellsR (Ls.set k (setT (lnat Ls k) q a c))=(lcellsR Ls).set (k*4+3) (.slice a q.length c)
 | [],k,h=>by simp at h
 | x::l,0,_=>by simp [lcellsR,lcellR,setT,lnat]
 | x::l,k+1,h=>by
  have ih:=lcellsR_setT q a c l k (by simpa using h)
  have e:(k+1)*4+3=k*4+3+4:=by omega
  have hk:lnat (x::l) (k+1)=lnat l k:=by simp [lnat]
  have c1:∀ (y:Rln) (t:List Rln),lcellsR (y::t)=lcellR y++lcellsR t:=fun y t=>by simp [lcellsR]
  rw [List.set_cons_succ,hk,c1,c1,ih,e]
  simp [lcellR]
section
variable {A:Nat→Prop} {C:Rc} {R:Nat→Rl} {w:World} {ads:Nat→Option Addr × Nat} {Xs:Nat→List Hm} {lv cv:Value} {Ls:List Rln} {cs:List Rcl}
theorem Rt.own (h:Rt A C R w ads Xs lv Ls cv cs) (R':Nat→Rl) (hr:∀ k,R k ≠ .no→R' k=R k) (ht:∀ k,w.heap.size≤k→R' k = .no) (ha:∀ k,A k→R' k = .no):Rt A C R' w ads Xs lv Ls cv cs:=by
 have ne:∀ {k:Nat} {x:Rl},R k=x→x ≠ .no→R' k=x:=fun e hx=>(hr _ (by rw [e];exact hx)).trans e
 have rf:∀ {ad:Option Addr} {l:List Value},RowF R w ad l→RowF R' w ad l:=fun h=>by
  rcases h with h | ⟨b,off,h1,h0,h2,h3⟩
  ·exact Or.inl h
  ·exact Or.inr ⟨b,off,h1,ne h0 (fun e=>by cases e),h2,h3⟩
 have qr:∀ {e:TypeId} {size:Nat} {v:Value} {n:Nat} {xs:List Value} {x:Rl},x ≠ .no→Qr w e size (fun k=>R k=x) v n xs→Qr w e size (fun k=>R' k=x) v n xs:=fun hx h=>h.kept fun g _ hR=>⟨rfl,ne hR hx⟩
 obtain ⟨cur,h1,h2⟩:=h.b.h
 exact ⟨⟨h.b.nb8,h.b.pos,h.b.t,ne h.b.rT (fun e=>by cases e),⟨cur,h1,h2⟩,ne h.b.rH (fun e=>by cases e),ht,ha,h.b.aL⟩,⟨fun b hb=>rf (h.h.row b hb),h.h.fi⟩,⟨qr (fun e=>by cases e) h.l.lk,fun j hj=>qr (fun e=>by cases e) (h.l.qu j hj),h.l.ms,fun l hl=>rf (h.l.td l hl)⟩,⟨qr (fun e=>by cases e) h.k.cl,fun j hj=>qr (fun e=>by cases e) (h.k.bx j hj),h.k.be⟩⟩
theorem Rt.wlink (h:Rt A C R w ads Xs lv Ls cv cs) {k:Nat} (hk:k<Ls.length) (l':Rln) (j:Nat) (u:Value) (hj:lcellsR (Ls.set k l')=(lcellsR Ls).set (k*4+j) u)
  (hq:Qr w 209 5 (fun i=>R i = .qu k 0) (.slice l'.qad l'.q.length l'.qcap) l'.q.length (l'.q.flatMap rmcells)) (hms:∀ x∈l'.q,RmOk A w x) (htd:RowF R w l'.tad (kcells l'.told))
  {g off lc:Nat} (hlv:lv = .slice (some ⟨g,off,none⟩) Ls.length lc) :
  Rt A C R (w.setCell ⟨g,off+(k*4+j),none⟩ u) ads Xs lv (Ls.set k l') cv cs∧Fr R R w (w.setCell ⟨g,off+(k*4+j),none⟩ u):=by
 have hg:R g = .lm∧g<w.heap.size:=h.l.lk.own g (by rw [hlv];rfl)
 have hs:w.heap.size≤(w.setCell ⟨g,off+(k*4+j),none⟩ u).heap.size:=by rw [size_set];exact Nat.le_refl _
 have ke:∀ i,R i ≠ .lm→(w.setCell ⟨g,off+(k*4+j),none⟩ u).heap[i]? = w.heap[i]? := fun i hi=>Below.heap_setCell w _ u i (fun e=>hi (by have e:i=g:=e;rw [e];exact hg.1))
 have ne:∀ {i:Nat} {x:Rl},R i=x→x ≠ .lm→R i ≠ .lm:=fun e hx=>by rw [e];exact hx
 have kA:∀ i,A i→R i ≠ .lm:=fun i hi=>ne (h.b.aR i hi) (fun e=>by cases e)
 refine ⟨⟨h.b.keep hs (fun i _ hr=>ke i ?_) (fun _ _=>rfl) (fun i hi=>h.b.top i (Nat.le_trans hs hi)) h.b.aR,h.h.keep hs (fun i _ hr=>ke i ?_) (fun _ _=>rfl),⟨?_,fun i hi=>?_,fun l hl x hx=>?_,fun l hl=>?_⟩,h.k.keep hs (fun i _ hr=>ke i ?_) (fun _ _=>rfl)⟩,⟨rfl,rfl,rfl,hs,fun i _ hr=>ke i ?_,fun _ _=>rfl⟩⟩
 ·rcases hr with hr | hr <;> exact ne hr (fun e=>by cases e)
 ·rcases hr with hr | hr
  ·exact ne hr (fun e=>by cases e)
  ·exact kA i hr
 ·rw [hj,List.length_set,hlv]
  have:=h.l.lk
  rw [hlv] at this
  exact this.set _ u
 ·rw [List.length_set] at hi
  rw [lnat_set hk]
  split
  ·rename_i e
   subst e
   exact hq.kept fun b _ hb=>⟨ke b (ne hb (fun e=>by cases e)),hb⟩
  ·exact (h.l.qu i hi).kept fun b _ hb=>⟨ke b (ne hb (fun e=>by cases e)),hb⟩
 ·refine RmOk.keep (w:=w) ?_ hs (fun i _ hi=>ke i (kA i hi))
  rcases List.mem_or_eq_of_mem_set hl with hl | hl
  ·exact h.l.ms l hl x hx
  ·subst hl;exact hms x hx
 ·refine RowF.keep (R:=R) (w:=w) ?_ hs (fun i _ hi=>ke i (ne hi (fun e=>by cases e))) (fun _ _=>rfl)
  rcases List.mem_or_eq_of_mem_set hl with hl | hl
  ·exact h.l.td l hl
  ·subst hl;exact htd
 ·rcases hr with hr | ⟨j,hr⟩ | hr
  ·exact ne hr (fun e=>by cases e)
  ·exact ne hr (fun e=>by cases e)
  ·exact kA i hr
 ·rcases hr with hr | hr <;> exact ne hr (fun e=>by cases e)
theorem Rt.grownQ (h:Rt A C R w ads Xs lv Ls cv cs) {k:Nat} (hk:k<Ls.length) {w1:World} {v':Value} (hg:w.grownBy w1 (Value.ownBlock (.slice (lnat Ls k).qad (lnat Ls k).q.length (lnat Ls k).qcap)))
  (hq:∀ i,v'.ownBlock=some i→i<w1.heap.size) (hold:Qr w1 209 5 (fun i=>R i = .qu k 0) (.slice (lnat Ls k).qad (lnat Ls k).q.length (lnat Ls k).qcap) (lnat Ls k).q.length ((lnat Ls k).q.flatMap rmcells))
  (ho:v'.ownBlock=Value.ownBlock (.slice (lnat Ls k).qad (lnat Ls k).q.length (lnat Ls k).qcap) ∨ ∃ j,w.heap.size≤j∧v'.ownBlock=some j) :
  Rt A C (fun i=>if v'.ownBlock=some i then .qu k 0 else R i) w1 ads Xs lv Ls cv cs∧Fr R (fun i=>if v'.ownBlock=some i then .qu k 0 else R i) w w1:=by
 have hown:=(h.l.qu k hk).own
 have hs:=hg.size
 have hsame:∀ i,i<w.heap.size→(if v'.ownBlock=some i then Rl.qu k 0 else R i)=R i:=by
  intro i hi
  split
  ·rename_i e
   rcases ho with h1 | ⟨j,hj,h1⟩
   ·rw [h1] at e;exact (hown i e).1.symm
   ·rw [h1] at e;injection e with e;omega
  ·rfl
 have ke:∀ i,i<w.heap.size→R i ≠ .qu k 0→w1.heap[i]? = w.heap[i]? := fun i hi h2=>hg.block i hi (fun e=>h2 (hown i e.symm).1)
 have ne:∀ {i:Nat} {x:Rl},R i=x→x ≠ .qu k 0→R i ≠ .qu k 0:=fun e hx=>by rw [e];exact hx
 have kA:∀ i,A i→R i ≠ .qu k 0:=fun i hi=>ne (h.b.aR i hi) (fun e=>by cases e)
 have htop:∀ i,w1.heap.size≤i→(if v'.ownBlock=some i then Rl.qu k 0 else R i) = .no:=by
  intro i hi
  rw [if_neg (fun e=>by have:=hq i e;omega)]
  exact h.b.top i (Nat.le_trans hs hi)
 have haR:∀ i,A i→(if v'.ownBlock=some i then Rl.qu k 0 else R i) = .no:=by
  intro i hi
  rw [hsame i (h.b.aL i hi)];exact h.b.aR i hi
 refine ⟨⟨h.b.keep hs (fun i hi hr=>ke i hi ?_) hsame htop haR,h.h.keep hs (fun i hi hr=>ke i hi ?_) hsame,⟨?_,fun j hj=>?_,fun l hl x hx=>?_,fun l hl=>?_⟩,h.k.keep hs (fun i hi hr=>ke i hi ?_) hsame⟩,⟨hg.os,hg.tape,hg.output,hs,fun i hi hr=>ke i hi ?_,hsame⟩⟩
 ·rcases hr with hr | hr <;> exact ne hr (fun e=>by cases e)
 ·rcases hr with hr | hr
  ·exact ne hr (fun e=>by cases e)
  ·exact kA i hr
 ·exact h.l.lk.kept fun b hb hR=>⟨ke b hb (ne hR (fun e=>by cases e)),(hsame b hb).trans hR⟩
 ·by_cases e:j=k
  ·subst e
   have lt:∀ i,Value.ownBlock (.slice (lnat Ls j).qad (lnat Ls j).q.length (lnat Ls j).qcap)=some i→i<w.heap.size:=fun i hi=>(hown i hi).2
   refine ⟨hold.1,?_⟩
   rcases hold.2 with h2 | ⟨g,off,cap,cur,hv,hR,hh,r⟩
   ·exact Or.inl h2
   ·exact Or.inr ⟨g,off,cap,cur,hv,(hsame g (lt g (by rw [hv];rfl))).trans hR,hh,r⟩
  ·refine (h.l.qu j hj).kept fun b hb hR=>⟨ke b hb (ne hR (fun e'=>?_)),(hsame b hb).trans hR⟩
   injection e' with e' _
   exact e e'
 ·exact (h.l.ms l hl x hx).keep hs (fun i hi ha=>ke i hi (kA i ha))
 ·exact (h.l.td l hl).keep hs (fun i hi ha=>ke i hi (ne ha (fun e=>by cases e))) hsame
 ·rcases hr with hr | ⟨j,hr⟩ | hr
  ·exact ne hr (fun e=>by cases e)
  ·exact ne hr (fun e=>by cases e)
  ·exact kA i hr
 ·rcases hr with hr | hr <;> exact ne hr (fun e=>by cases e)
theorem Rt.send (h:Rt A C R w ads Xs lv Ls cv cs) {k:Nat} (hk:k<Ls.length) (x:Rms) (hx:RmOk A w x) {w1:World} {a':Option Addr} {c':Nat}
  (hq:Qr w1 209 5 (fun i=>Value.ownBlock (.slice a' ((lnat Ls k).q.length+1) c')=some i) (.slice a' ((lnat Ls k).q.length+1) c') ((lnat Ls k).q.length+1) ((lnat Ls k).q.flatMap rmcells++rmcells x))
  (hg:w.grownBy w1 (Value.ownBlock (.slice (lnat Ls k).qad (lnat Ls k).q.length (lnat Ls k).qcap))) (hold:Qr w1 209 5 (fun i=>R i = .qu k 0) (.slice (lnat Ls k).qad (lnat Ls k).q.length (lnat Ls k).qcap) (lnat Ls k).q.length ((lnat Ls k).q.flatMap rmcells))
  (ho:Value.ownBlock (.slice a' ((lnat Ls k).q.length+1) c')=Value.ownBlock (.slice (lnat Ls k).qad (lnat Ls k).q.length (lnat Ls k).qcap) ∨ ∃ j,w.heap.size≤j∧Value.ownBlock (.slice a' ((lnat Ls k).q.length+1) c')=some j)
  {g off lc:Nat} (hlv:lv = .slice (some ⟨g,off,none⟩) Ls.length lc) :
  ∃ R',Rt A C R' (w1.setCell ⟨g,off+(k*4+2),none⟩ (.slice a' ((lnat Ls k).q.length+1) c')) ads Xs lv (Ls.set k (setQ (lnat Ls k) ((lnat Ls k).q++[x]) a' c')) cv cs∧Fr R R' w (w1.setCell ⟨g,off+(k*4+2),none⟩ (.slice a' ((lnat Ls k).q.length+1) c')):=by
 obtain ⟨h1,f1⟩:=h.grownQ hk hg (fun i hi=>(hq.own i hi).2) hold ho
 have hA:∀ i,i<w.heap.size→A i→w1.heap[i]? = w.heap[i]? := fun i hi ha=>f1.keep i hi (Or.inl (h.b.aR i ha))
 have hl:((lnat Ls k).q++[x]).length=(lnat Ls k).q.length+1:=by simp
 obtain ⟨h2,f2⟩:=h1.wlink hk (setQ (lnat Ls k) ((lnat Ls k).q++[x]) a' c') 2 (.slice a' ((lnat Ls k).q.length+1) c') (by rw [lcellsR_setQ _ _ _ Ls k hk,hl]) (by
   simp only [setQ]
   rw [hl,List.flatMap_append]
   simp only [List.flatMap_cons,List.flatMap_nil,List.append_nil]
   exact hq.kept fun b _ hb=>⟨rfl,if_pos hb⟩) (fun y hy=>by
   simp only [setQ] at hy
   rcases List.mem_append.1 hy with hy | hy
   ·exact h1.l.ms _ (lnat_mem hk) y hy
   ·rw [List.mem_singleton.1 hy];exact hx.keep hg.size hA) (h1.l.td (lnat Ls k) (lnat_mem hk)) hlv
 exact ⟨_,h2,f1.trans f2⟩
theorem Rt.tell {R0:Nat→Rl} {w0:World} (F:Fr R0 R w0 w) (h:Rt A C R w ads Xs lv Ls cv cs) {k:Nat} (hk:k<Ls.length) (K:List Ky) {ta:Option Addr} {tc:Nat} (ho:Qr w 200 2 (fun i=>w0.heap.size≤i∧R i = .no) (.slice ta K.length tc) K.length (kcells K))
  (hA0:∀ k,A k→k<w0.heap.size) {g off lc:Nat} (hlv:lv = .slice (some ⟨g,off,none⟩) Ls.length lc) :
  ∃ R',Rt A C R' (w.setCell ⟨g,off+(k*4+3),none⟩ (.slice ta K.length tc)) ads Xs lv (Ls.set k (setT (lnat Ls k) K ta tc)) cv cs∧Fr R0 R' w0 (w.setCell ⟨g,off+(k*4+3),none⟩ (.slice ta K.length tc)):=by
 have own:=ho.own
 have h1:=h.own (fun i=>if Value.ownBlock (.slice ta K.length tc)=some i then .fx else R i) (fun i hi=>if_neg (fun e=>hi (own i e).1.2)) (fun i hi=>by
  rw [if_neg (fun e=>by have:=(own i e).2;omega)];exact h.b.top i hi) (fun i hi=>by
  rw [if_neg (fun e=>by have:=(own i e).1.1;have:=hA0 i hi;omega)];exact h.b.aR i hi)
 obtain ⟨h2,f2⟩:=h1.wlink hk (setT (lnat Ls k) K ta tc) 3 (.slice ta K.length tc) (lcellsR_setT _ _ _ Ls k hk) (h1.l.qu k hk) (h1.l.ms (lnat Ls k) (lnat_mem hk)) (by
  have hq:Qr w 200 2 (fun i=>Value.ownBlock (.slice ta K.length tc)=some i) (.slice ta K.length tc) K.length (kcells K):=by
   refine ⟨ho.1,?_⟩
   rcases ho.2 with h2 | ⟨g,off,cap,cur,hv,_,rr⟩
   ·exact Or.inl h2
   ·exact Or.inr ⟨g,off,cap,cur,hv,by rw [hv];rfl,rr⟩
  exact RowF.of_qr hq fun i hi=>if_pos hi) hlv
 have f1:Fr R0 (fun i=>if Value.ownBlock (.slice ta K.length tc)=some i then .fx else R i) w0 w:=⟨F.os,F.tape,F.output,F.size,F.keep,fun i hi=>by
  rw [if_neg (fun e=>by have:=(own i e).1.1;omega)];exact F.same i hi⟩
 exact ⟨_,h2,f1.trans f2⟩
theorem Rt.turnH {R0:Nat→Rl} {w0:World} (F:Fr R0 R w0 w) (h:Rt A C R w ads Xs lv Ls cv cs) {b:Nat} (hb:b<C.nb) (X:List Hm) {va:Option Addr} {vk:Nat} (ho:w.ownsRow w0.heap.size 202 4 (.slice va X.length vk) X.length (hcells X))
  (hno:∀ i,Value.ownBlock (.slice va X.length vk)=some i→R i = .no) (hA0:∀ k,A k→k<w0.heap.size) (hX:∀ x∈X,FiO A w x.2.1 x.1.f) :
  ∃ R',Rt A C R' (w.setCell ⟨C.HB,b,none⟩ (.slice va X.length vk)) (fun i=>if i=b then (va,vk) else ads i) (fun i=>if i=b then X else Xs i) lv Ls cv cs∧Fr R0 R' w0 (w.setCell ⟨C.HB,b,none⟩ (.slice va X.length vk)):=by
 have low:=own_low ho
 have h1:=h.own (fun i=>if Value.ownBlock (.slice va X.length vk)=some i then .fx else R i) (fun i hi=>if_neg (fun e=>hi (hno i e))) (fun i hi=>by
  rw [if_neg (fun e=>by have:=own_lt ho e;omega)];exact h.b.top i hi) (fun i hi=>by
  rw [if_neg (fun e=>by have:=low i e;have:=hA0 i hi;omega)];exact h.b.aR i hi)
 have f1:Fr R0 (fun i=>if Value.ownBlock (.slice va X.length vk)=some i then .fx else R i) w0 w:=⟨F.os,F.tape,F.output,F.size,F.keep,fun i hi=>by
  rw [if_neg (fun e=>by have:=low i e;omega)];exact F.same i hi⟩
 have hrow:=RowF.of_owns (R:=fun i=>if Value.ownBlock (.slice va X.length vk)=some i then .fx else R i) ho fun i hi=>if_pos hi
 generalize (fun i=>if Value.ownBlock (.slice va X.length vk)=some i then .fx else R i:Nat→Rl)=R1 at *
 have hs:w.heap.size≤(w.setCell ⟨C.HB,b,none⟩ (.slice va X.length vk)).heap.size:=by rw [size_set];exact Nat.le_refl _
 have ke:∀ i,R1 i ≠ .hm 0→(w.setCell ⟨C.HB,b,none⟩ (.slice va X.length vk)).heap[i]? = w.heap[i]? := fun i hi=>Below.heap_setCell w _ _ i (fun e=>hi (by have e:i=C.HB:=e;rw [e];exact h1.b.rH))
 have ne:∀ {i:Nat} {x:Rl},R1 i=x→x ≠ .hm 0→R1 i ≠ .hm 0:=fun e hx=>by rw [e];exact hx
 have kA:∀ i,A i→R1 i ≠ .hm 0:=fun i hi=>ne (h1.b.aR i hi) (fun e=>by cases e)
 obtain ⟨cur,c1,c2⟩:=h1.b.h
 refine ⟨R1,⟨⟨h1.b.nb8,h1.b.pos,(ke _ (ne h1.b.rT (fun e=>by cases e))).trans h1.b.t,h1.b.rT,⟨cur.setIfInBounds b (.slice va X.length vk),heap_setCell_same _ _ _ _ _ _ c1,fun i hi=>?_⟩,h1.b.rH,fun i hi=>h1.b.top i (Nat.le_trans hs hi),h1.b.aR,fun i hi=>Nat.lt_of_lt_of_le (h1.b.aL i hi) hs⟩,⟨fun i hi=>?_,fun i hi x hx=>?_⟩,h1.l.keep hs (fun i _ hr=>ke i ?_) (fun _ _=>rfl),h1.k.keep hs (fun i _ hr=>ke i ?_) (fun _ _=>rfl)⟩,f1.trans ⟨rfl,rfl,rfl,hs,fun i _ hr=>ke i ?_,fun _ _=>rfl⟩⟩
 ·have hsz:b<cur.size:=(Array.getElem?_eq_some_iff.1 (c2 b hb)).1
  rw [Array.getElem?_setIfInBounds]
  by_cases e:b=i
  ·subst e;simp [hsz]
  ·rw [if_neg e,c2 i hi]
   simp only [if_neg (fun h=>e (Eq.symm h):¬ i=b)]
 ·by_cases e:i=b
  ·simp only [e,if_true]
   exact hrow.keep hs (fun i _ hi=>ke i (ne hi (fun e=>by cases e))) (fun _ _=>rfl)
  ·simp only [if_neg e]
   exact (h1.h.row i hi).keep hs (fun i _ hi=>ke i (ne hi (fun e=>by cases e))) (fun _ _=>rfl)
 ·by_cases e:i=b
  ·simp only [e,if_true] at hx
   exact (hX x hx).keep hs (fun i _ hi=>ke i (kA i hi))
  ·simp only [if_neg e] at hx
   exact (h1.h.fi i hi x hx).keep hs (fun i _ hi=>ke i (kA i hi))
 ·rcases hr with hr | ⟨j,hr⟩ | hr | hr
  ·exact ne hr (fun e=>by cases e)
  ·exact ne hr (fun e=>by cases e)
  ·exact ne hr (fun e=>by cases e)
  ·exact kA i hr
 ·rcases hr with hr | ⟨j,hr⟩ | hr
  ·exact ne hr (fun e=>by cases e)
  ·exact ne hr (fun e=>by cases e)
  ·exact kA i hr
 ·rcases hr with hr | hr <;> exact ne hr (fun e=>by cases e)
end
end Go.Proofs.YtecnfgikbmcgoaaGreat
