import Derived.Test.YtecnfgikbmcgoaaGreatG33
import Derived.Test.YtecnfgikbmcgoaaGreatG10
namespace Go.Proofs.YtecnfgikbmcgoaaGreat
open Go.RowKit
structure St (A:Nat→Prop) (T:Tc) (C:Rc) (r R:Nat→Rl) (LB PB BB:Nat) (B D:Nat→Prop) (L M:Nat) (w:World) (cs:List (Pc (List Atr))) (s:Ts):Prop where
 pr:Pr A T C r R LB PB BB w cs s
 bo:Bo BB B L w
 le:Le A LB D M w
 sB:∀ k,B k→r k = .no∧R k = .no ∧ ¬ D k ∧ ¬ A k∧k≠PB∧k≠0
 sD:∀ k,D k→r k = .no∧R k = .no ∧ ¬ A k∧k≠PB∧k≠0
theorem Bn.old {B:Nat→Prop} {b0 b1 k:Nat} (hk:k<b0) (h:Bn B b0 b1 k):B k:=h.elim id (fun e=>absurd e.1 (by omega))
def Oz (r R:Nat→Rl) (B D:Nat→Prop):Nat→Prop:=fun k=>r k ≠ .no∨R k ≠ .no∨B k∨D k
section
variable {A:Nat→Prop} {T:Tc} {C:Rc} {r R:Nat→Rl} {LB PB BB:Nat} {B D:Nat→Prop} {L M:Nat} {w:World} {cs:List (Pc (List Atr))} {s:Ts}
theorem St.gr (h:St A T C r R LB PB BB B D L M w cs s) {w':World} (g:Gr w w'):St A T C r R LB PB BB B D L M w' cs s :=
 ⟨h.pr.gr g,h.bo.gr g,h.le.gr g,h.sB,h.sD⟩
theorem St.kept (h:St A T C r R LB PB BB B D L M w cs s) {w1 w2:World} {e:Ending} (g:Gr w w1) (k:KeptB BB B L w.heap.size w1 e w2) :
  St A T C r R LB PB BB (Bn B w.heap.size w2.heap.size) D (L+4) M w2 cs s∧Kx (Oz r R B D) w w2:=by
 obtain ⟨he,kb,kx⟩:=k
 have tr:=h.pr.p.b.top
 have tR:=h.pr.q.top.1
 have tA:=h.pr.q.top.2
 have tp:=blk_lt h.pr.pb
 have t0:0<w.heap.size:=h.pr.p.b.ml.pos
 have tD:=h.le.lt
 have h1:=h.gr g
 have hno:∀ k,(B k∨w.heap.size≤k)→r k = .no∧R k = .no ∧ ¬ D k ∧ ¬ A k∧k≠PB∧k≠0:=fun k hk=>by
  rcases hk with hk | hk
  ·exact h.sB k hk
  ·exact ⟨tr k hk,tR k hk,fun c=>absurd (tD k c) (by omega),fun c=>absurd (tA k c) (by omega),by omega,by omega⟩
 have a1:=h1.pr.apart kx.fr (fun k=>by
  by_cases e:B k∨w.heap.size≤k
  ·exact Or.inl (hno k e).1
  ·exact Or.inr (kz_no e)) (fun k=>by
  by_cases e:B k∨w.heap.size≤k
  ·exact Or.inl (hno k e).2.1
  ·exact Or.inr (kz_no e)) (fun k hk=>kz_no (fun e=>(hno k e).2.2.2.1 hk)) (kz_no (fun e=>(hno 0 e).2.2.2.2.2 rfl)) (kz_no (fun e=>(hno PB e).2.2.2.2.1 rfl))
 refine ⟨⟨a1,kb,h1.le.apart kx (fun k hk e=>(hno k e).2.2.1 hk) (fun k hk e=>(hno k e).2.2.2.1 hk),fun k hk=>hno k (hk.imp id And.left),h.sD⟩,(Kx.gr g).trans kx (fun k hk e=>?_)⟩
 rcases e with e | e
 ·exact Or.inr (Or.inr (Or.inl e))
 ·omega
end
theorem lkTo_map (T:Tc) (s:Ts):lkTo T s T.nb=(lks T).map fun p=>(p.1,p.2,(s.q p.1 p.2).length):=by
 unfold lkTo lks
 rw [List.map_flatMap]
 congr 1
 funext a
 rw [List.map_map]
 rfl
theorem lkTo_Ls {T:Tc} {s:Ts} {Ls:List Rln} (h:Ls.map Rln.av=linksOf T s):lkTo T s T.nb=Ls.map fun l=>(l.fr,l.to,l.q.length):=by
 have e:=congrArg (List.map fun x:Al=>(x.fr,x.to,x.q.length)) h
 rw [List.map_map,linksOf,List.map_map] at e
 rw [lkTo_map]
 refine (Eq.trans ?_ e.symm).trans ?_
 ·rfl
 ·refine List.map_congr_left fun l _=>?_
  simp [Rln.av]
def LkA (TB:Nat) (w:World) (X:List Lw):Prop:=∃ la lc,w.cell? ⟨TB,1,none⟩=some (.slice la X.length lc) ∧ ∀ j,j<X.length → ∃ b off qa qc ta tn tc,la=some ⟨b,off,none⟩∧w.cell? ⟨b,off+j*4,none⟩=some (.int .i64 ((lat X j).1:Int))∧w.cell? ⟨b,off+j*4+1,none⟩=some (.int .i64 ((lat X j).2.1:Int))∧w.cell? ⟨b,off+j*4+1+1,none⟩=some (.slice qa (lat X j).2.2 qc)∧w.cell? ⟨b,off+j*4+1+1+1,none⟩=some (.slice ta tn tc)
theorem Rw.lkA {A:Nat→Prop} {C:Rc} {T:Tc} {R:Nat→Rl} {w:World} {cs:List (Pc (List Atr))} {s:Ts} (h:Rw A C T R w cs s):LkA C.TB w (lkTo T s T.nb):=by
 obtain ⟨ads,Xs,lv,Ls,cv,rs,rt,hnb,rv,_⟩:=h
 obtain ⟨la,lc,rfl⟩:=rt.lshape
 rw [lkTo_Ls rv.lk]
 refine ⟨la,lc,by rw [List.length_map];exact rt.c1,fun j hj=>?_⟩
 rw [List.length_map] at hj
 obtain ⟨b,off,e,_,d0,d1,d2,d3⟩:=rt.l.lk.rowAt.lnk hj
 have hk:lat (Ls.map fun l=>(l.fr,l.to,l.q.length)) j=((lnat Ls j).fr,(lnat Ls j).to,(lnat Ls j).q.length):=by
  unfold lat lnat
  simp only [List.getD_eq_getElem?_getD,List.getElem?_map,List.getElem?_eq_getElem hj,Option.map_some,Option.getD_some]
 rw [hk]
 exact ⟨b,off,_,_,_,_,_,e,d0,d1,d2,d3⟩
set_option maxRecDepth 100000 in
set_option maxHeartbeats 4000000 in
theorem St.links {A:Nat→Prop} {T:Tc} {C:Rc} {r R:Nat→Rl} {LB PB BB:Nat} {B D:Nat→Prop} {L M:Nat} {w:World} {cs:List (Pc (List Atr))} {s:Ts} (h:St A T C r R LB PB BB B D L M w cs s) (hm:Sm T s) (hL:L≤1099511627776) :
  Calls Tryz.prog 68 #[.pointer (some ⟨PB,0,none⟩)] w fun e w'=>e = .returned (.bool true) ∧ ∃ B',(∀ k,k<w.heap.size→B' k→B k)∧St A T C r R LB PB BB B' D (L+4) M w' cs s∧Kx (Oz r R B D) w w':=by
 obtain ⟨cls,hTw,_⟩:=h.pr.p
 have LK:=Hid.mk' (Links_any T r w cls s hTw hm)
 have RL1:Hid (∀ W,Gr w W→LkA C.TB W (lkTo T s T.nb)):=fun W g=>(h.pr.q.gr g).lkA
 have hXl:(lkTo T s T.nb).length≤64:=by
  have h1:=lkTo_len T s T.nb
  have h2:=hTw.b.nb8
  have:T.nb*T.nb≤8*8:=Nat.mul_le_mul h2 h2
  omega
 have PC:Hid (∀ W,Gr w W→W.cell? ⟨PB,0,none⟩=some (.pointer (some ⟨T.TB,0,none⟩))∧W.cell? ⟨PB,1,none⟩=some (.pointer (some ⟨C.TB,0,none⟩))∧W.cell? ⟨PB,3,none⟩=some (.pointer (some ⟨BB,0,none⟩))):=fun W g=>by
  have b:=blk_gr g h.pr.pb
  refine ⟨?_,?_,?_⟩ <;> (rw [cell_of_row _ _ _ _ _ _ b];rfl)
 have KP:Hid (∀ (W:World) (ad:Option Addr) (n cap:Nat) (xs:List Value),Gr w W→n≤64→W.ownsRow w.heap.size 54 3 (.slice ad n cap) n xs→Calls Tryz.prog 104 #[.pointer (some ⟨BB,0,none⟩),.slice ad n cap] W fun e w'=>KeptB BB B L w.heap.size W e w'):=fun W ad n cap xs g hn ho=>(h.bo.gr g).keepL hL g.size h.bo.lt (by omega) ho
 have HS:=Hid.mk' h
 obtain ⟨p0,p1,p3⟩:=PC.out w (Gr.refl _)
 clear h hTw hm
 generalize lkTo T s T.nb=X at *
 go_enter Tryz.func68,Tryz.ntmps68
 go_wp2_with fail
 refine LK.out.mono ?_
 rintro e w1 ⟨v,rfl,ho,g1⟩
 obtain ⟨va,vc,rfl,hva⟩:=owns_shape ho
 have O1:=Hid.mk' ho
 have HVA:=Hid.mk' hva
 have G1:=Hid.mk' g1
 clear ho hva g1 p0 p1 p3 LK
 obtain ⟨p0,p1,p3⟩:=PC.out w1 G1.out
 obtain ⟨la,lc,l1,_⟩:=RL1.out w1 G1.out
 go_wp2_with fail
 clear p0 p1 p3 l1
 go_loopw [4] (fun i wr=>∃ q:Nat,q≤X.length∧i = .int .i64 q∧Hid (Gr w1 wr)) (fun i _=>X.length - (intOf i).toNat)
 case atStart=>exact ⟨0,Nat.zero_le _,rfl,Gr.refl _⟩
 case round =>
  obtain ⟨q,hq,rfl,G⟩:=hrel
  obtain ⟨p0,p1,p3⟩:=PC.out wr (Gr.call G1.out G.out)
  by_cases hlt:q<X.length
  ·obtain ⟨g,rfl⟩:=HVA.out (by omega)
   have CW:Hid (∀ W,Gr w1 W→W.cell? ⟨g,q*3,none⟩=some (.int .i64 ((lat X q).1:Int))∧W.cell? ⟨g,q*3+1,none⟩=some (.int .i64 ((lat X q).2.1:Int))∧W.cell? ⟨g,q*3+1+1,none⟩=some (.int .i64 ((lat X q).2.2:Int))):=fun W gw=>by
    obtain ⟨c0,c1,c2⟩:=lcells_at X q hlt
    have hXc:=O1.out.1
    rw [← World.ownsRow.cellAt (ownsGr O1.out gw) _ (by omega)] at c0 c1 c2
    exact ⟨c0,c1,c2⟩
   obtain ⟨la',lc',l1,hl⟩:=RL1.out wr (Gr.call G1.out G.out)
   obtain ⟨b,off,qa,qc,ta,tn,tc,rfl,d0,d1,d2,d3⟩:=hl q hlt
   clear hl
   generalize lat X q=z at *
   go_wp2_with fail
   have GA:=Hid.mk' (G.out.alloc (.cells #[.int .i64 (z.1:Int),.int .i64 (z.2.1:Int),.slice qa z.2.2 qc,.slice ta tn tc] 196))
   have kb:(wr.alloc (.cells #[.int .i64 (z.1:Int),.int .i64 (z.2.1:Int),.slice qa z.2.2 qc,.slice ta tn tc] 196)).heap[wr.heap.size]? = some (.cells #[.int .i64 (z.1:Int),.int .i64 (z.2.1:Int),.slice qa z.2.2 qc,.slice ta tn tc] 196 (0,0)):=heap_alloc_new _ _
   clear d0 d1 d2 d3 l1 p0 p1 p3
   generalize wr.alloc (.cells #[.int .i64 (z.1:Int),.int .i64 (z.2.1:Int),.slice qa z.2.2 qc,.slice ta tn tc] 196)=W at *
   obtain ⟨c0,c1,c2⟩:=CW.out W GA.out
   have k0:W.cell? ⟨wr.heap.size,0,none⟩=some (.int .i64 (z.1:Int)):=by rw [cell_of_row _ _ _ _ _ _ kb];rfl
   have k1:W.cell? ⟨wr.heap.size,1,none⟩=some (.int .i64 (z.2.1:Int)):=by rw [cell_of_row _ _ _ _ _ _ kb];rfl
   have k2:W.cell? ⟨wr.heap.size,2,none⟩=some (.slice qa z.2.2 qc):=by rw [cell_of_row _ _ _ _ _ _ kb];rfl
   clear kb CW
   generalize wr.heap.size=KB at *
   go_quiet (fail)
   have G2:=Hid.mk' (GA.out.drewN nq)
   clear c0 c1 c2 k0 k1 k2 GA
   go_wp2_with fail
   exact ⟨⟨q+1,hlt,by simp,G2⟩,measM_dec _ _ hlt⟩
  ·have hqe:q=X.length:=by omega
   subst hqe
   have KQ:=Hid.mk' (KP.out wr va X.length vc _ (Gr.call G1.out G.out) hXl (ownsGr O1.out G.out))
   have GW:=Hid.mk' (Gr.call G1.out G.out)
   clear PC KP RL1 O1 HVA G1 G
   go_wp2_with fail
   refine KQ.out.mono ?_
   rintro e w2 hk
   have h3:=hk.1
   subst h3
   have K3:=Hid.mk' (HS.out.kept GW.out hk)
   clear hk KQ GW HS
   go_wp2_with fail
   go_ret
   exact ⟨rfl,_,fun k hk hb=>Bn.old hk hb,K3.out⟩
def HldP (T:TypeId) (KS:List Ky) (code:Int) (w:World) (e:Ending) (w':World):Prop:=∃ v,e = .returned (.tuple #[v,.int .i64 code])∧w'.ownsRow w.heap.size T 2 v KS.length (kcells KS)∧Gr w w'
theorem held_both {A:Nat→Prop} {T:Tc} {C:Rc} {r R:Nat→Rl} {LB PB BB:Nat} {w:World} {cs:List (Pc (List Atr))} {s:Ts} (h:Pr A T C r R LB PB BB w cs s) (hm:Sm T s) (hs:∀ b,b<T.nb→Srt (s.held b)) (hadj:∀ a b,T.adj a b=true→a<T.nb∧b<T.nb) (hlk:(lks T).length≤14) (b from_:Int) (hi:I64 from_) :
  ∃ (KS:List Ky) (code:Int),KS.length≤1048576∧(∀ W,Gr w W→Calls Tryz.prog 16 #[.pointer (some ⟨T.TB,0,none⟩),.int .i64 b,.int .i64 from_] W fun e w'=>HldP 112 KS code W e w') ∧
   ∀ W,Gr w W→Calls Tryz.prog 105 #[.pointer (some ⟨C.TB,0,none⟩),.int .i64 b,.int .i64 from_] W fun e w'=>HldP 200 KS code W e w':=by
 by_cases hb:b<0∨(T.nb:Int)≤b
 ·refine ⟨[],5,Nat.zero_le _,fun W g=>?_,fun W g=>?_⟩
  ·refine (Held_out T r W cs s b from_ (h.p.gr g) hb).mono ?_
   rintro e w' ⟨he,g1⟩
   exact ⟨_,he,World.ownsRow_nil _ _ _ _,g1⟩
  ·refine (rHeld_out A C T R W cs s b from_ (h.q.gr g) hb).mono ?_
   rintro e w' ⟨he,rfl⟩
   exact ⟨_,he,World.ownsRow_nil _ _ _ _,Gr.refl _⟩
 ·obtain ⟨n,rfl⟩:∃ n:Nat,b=(n:Int):=⟨b.toNat,by omega⟩
  have hn:n<T.nb:=by omega
  by_cases hc:from_ = -1 ∨ ∃ a:Nat,from_=(a:Int)∧T.adj n a=true
  ·refine ⟨keysOf s n from_,0,?_,fun W g=>?_,fun W g=>?_⟩
   ·unfold keysOf
    rw [List.length_map]
    exact Nat.le_trans (List.length_filter_le _ _) (hm.h n hn)
   ·refine (Held_yes T r W cs s n from_ (h.p.gr g) hm hn (hs n hn) hc).mono ?_
    rintro e w' ⟨v,he,ho,g1⟩
    exact ⟨v,he,ho,g1⟩
   ·refine (rHeld_t A C T R W cs s n from_ (h.q.gr g) hn hm hadj hlk true ⟨fun _=>hc,fun _=>rfl⟩).mono ?_
    rintro e w' ⟨hp,g1⟩
    obtain ⟨v,he,ho⟩:=hp.1 rfl
    exact ⟨v,he,ho,g1⟩
  ·refine ⟨[],5,Nat.zero_le _,fun W g=>?_,fun W g=>?_⟩
   ·refine (Held_no T r W cs s n from_ (h.p.gr g) hn hi (fun e=>hc (Or.inl e)) (fun a e=>?_)).mono ?_
    ·cases ha:T.adj n a with
     | false=>rfl
     | true=>exact absurd (Or.inr ⟨a,e,ha⟩) hc
    ·rintro e w' ⟨he,g1⟩
     exact ⟨_,he,World.ownsRow_nil _ _ _ _,g1⟩
   ·refine (rHeld_t A C T R W cs s n from_ (h.q.gr g) hn hm hadj hlk false ⟨(fun e=>by cases e),fun e=>absurd e hc⟩).mono ?_
    rintro e w' ⟨hp,g1⟩
    exact ⟨_,hp.2 rfl,World.ownsRow_nil _ _ _ _,g1⟩
set_option maxRecDepth 100000 in
set_option maxHeartbeats 4000000 in
theorem St.held {A:Nat→Prop} {T:Tc} {C:Rc} {r R:Nat→Rl} {LB PB BB:Nat} {B D:Nat→Prop} {L M:Nat} {w:World} {cs:List (Pc (List Atr))} {s:Ts} (h:St A T C r R LB PB BB B D L M w cs s) (hm:Sm T s) (hs:∀ b,b<T.nb→Srt (s.held b)) (hadj:∀ a b,T.adj a b=true→a<T.nb∧b<T.nb) (hlk:(lks T).length≤14) (hL:L≤1099511627776) (b from_:Int) (hi:I64 from_) :
  Calls Tryz.prog 69 #[.pointer (some ⟨PB,0,none⟩),.int .i64 b,.int .i64 from_] w fun e w'=>e = .returned (.bool true) ∧ ∃ B',(∀ k,k<w.heap.size→B' k→B k)∧St A T C r R LB PB BB B' D (L+4) M w' cs s∧Kx (Oz r R B D) w w':=by
 obtain ⟨X,code,hXl,HH,RH⟩:=held_both h.pr hm hs hadj hlk b from_ hi
 have HH':=Hid.mk' HH
 have RH':=Hid.mk' RH
 clear HH RH
 have PC:Hid (∀ W,Gr w W→W.cell? ⟨PB,0,none⟩=some (.pointer (some ⟨T.TB,0,none⟩))∧W.cell? ⟨PB,1,none⟩=some (.pointer (some ⟨C.TB,0,none⟩))∧W.cell? ⟨PB,3,none⟩=some (.pointer (some ⟨BB,0,none⟩))):=fun W g=>by
  have b:=blk_gr g h.pr.pb
  refine ⟨?_,?_,?_⟩ <;> (rw [cell_of_row _ _ _ _ _ _ b];rfl)
 have KP:Hid (∀ (W:World) (ad:Option Addr) (n cap:Nat) (xs:List Value),Gr w W→n≤1048576→W.ownsRow w.heap.size 112 2 (.slice ad n cap) n xs→Calls Tryz.prog 106 #[.pointer (some ⟨BB,0,none⟩),.slice ad n cap] W fun e w'=>KeptB BB B L w.heap.size W e w'):=fun W ad n cap xs g hn ho=>(h.bo.gr g).keepY hL g.size h.bo.lt (by omega) ho
 have HS:=Hid.mk' h
 obtain ⟨p0,p1,p3⟩:=PC.out w (Gr.refl _)
 have H0:=Hid.mk' (HH'.out w (Gr.refl _))
 clear h hm hs hadj hlk HH'
 go_enter Tryz.func69,Tryz.ntmps69
 go_wp2_with fail
 refine H0.out.mono ?_
 rintro e w1 ⟨v,rfl,ho,g1⟩
 obtain ⟨va,vc,rfl,hva⟩:=owns_shape ho
 have O1:=Hid.mk' ho
 have HVA:=Hid.mk' hva
 have G1:=Hid.mk' g1
 clear ho hva g1 p0 p1 p3 H0
 obtain ⟨p0,p1,p3⟩:=PC.out w1 G1.out
 have R0:=Hid.mk' (RH'.out w1 G1.out)
 clear RH'
 go_wp2_with fail
 refine R0.out.mono ?_
 rintro e w2 ⟨v2,rfl,ho2,g2⟩
 obtain ⟨vb,vd,rfl,hvb⟩:=owns_shape ho2
 have O2:=Hid.mk' ho2
 have HVB:=Hid.mk' hvb
 have G2:=Hid.mk' g2
 have O1:=Hid.mk' (ownsGr O1.out g2)
 have GW:=Hid.mk' (Gr.call G1.out g2)
 clear ho2 hvb g2 p0 p1 p3 R0 G1
 go_wp2_with fail
 refine (num_any code w2).mono ?_
 rintro e w3 ⟨rfl,hw3⟩
 have hw3':=hw3.symm
 clear hw3
 subst hw3'
 go_wp2_with fail
 go_loopw [11] (fun i wr=>∃ q:Nat,q≤X.length∧i = .int .i64 q∧Hid (Gr w2 wr)) (fun i _=>X.length - (intOf i).toNat)
 case atStart=>exact ⟨0,Nat.zero_le _,rfl,Gr.refl _⟩
 case round =>
  obtain ⟨q,hq,rfl,G⟩:=hrel
  obtain ⟨p0,p1,p3⟩:=PC.out wr (Gr.call GW.out G.out)
  by_cases hlt:q<X.length
  ·obtain ⟨g,rfl⟩:=HVA.out (by omega)
   obtain ⟨g',rfl⟩:=HVB.out (by omega)
   obtain ⟨c1,c2⟩:=kcells_at X q hlt
   obtain ⟨d1,d2⟩:=kcells_at X q hlt
   rw [← World.ownsRow.cellAt (ownsGr O1.out G.out) _ (by omega)] at c1 c2
   rw [← World.ownsRow.cellAt (ownsGr O2.out G.out) _ (by omega)] at d1 d2
   generalize eat X q=z at *
   clear p0 p1 p3
   go_wp2_with fail
   go_quiet (fail)
   have G3:=Hid.mk' (G.out.drewN nq)
   clear c1 c2 d1 d2
   go_wp2_with fail
   exact ⟨⟨q+1,hlt,by simp,G3⟩,measM_dec _ _ hlt⟩
  ·have hqe:q=X.length:=by omega
   subst hqe
   have KQ:=Hid.mk' (KP.out wr va X.length vc _ (Gr.call GW.out G.out) hXl (ownsGr O1.out G.out))
   have GX:=Hid.mk' (Gr.call GW.out G.out)
   clear PC KP O1 O2 HVA HVB GW G G2
   go_wp2_with fail
   refine KQ.out.mono ?_
   rintro e w5 hk
   have h3:=hk.1
   subst h3
   have K3:=Hid.mk' (HS.out.kept GX.out hk)
   clear hk KQ GX HS
   go_wp2_with fail
   go_ret
   exact ⟨rfl,_,fun k hk hb=>Bn.old hk hb,K3.out⟩
section
variable {P:Program} {ops:Array Oper} {Q:Exit→Act→World→Prop}
theorem region_M {id:Nat} {a0:Act} {w0:World} (hm:P.follows .mixedOrders=true) (last m:Nat) (hml:m<last) (hsz:ops.size=last+1) (dst:Nat→Nat)
  (hinj:∀ i j,i<last→j<last→dst i=dst j→i=j) (hguard:∀ (i:Nat) (o:Oper),ops[i]? = some o→o.guard=none)
  (hdag:∀ (i:Nat) (o:Oper),ops[i]? = some o → ∀ e∈o.after,e.on<i) (hall:∀ j,j<last → ∃ (k:Nat) (o:Oper),j<k∧k≤last∧ops[k]? = some o ∧ ∃ e∈o.after,Region.binds .any e=true∧e.on=j)
  (R:Nat→Value→World→Prop) (E:Act→Prop) (W:Bool→World→Prop) (Good:Nat→World→World→Prop)
  (hE:∀ a i x,i<last→E a→E (a.put (some (dst i)) x)) (hsize:∀ a,E a → ∀ i,i<last→dst i<a.tmps.size)
  (hW:∀ i t w w',i≠m→W t w→Good i w w'→W t w') (hWm:∀ w w',W false w→Good m w w'→W true w') (hR:∀ i j x w w',i≠j→R j x w→Good i w w'→R j x w')
  (hfront:∀ (i:Nat) (o:Oper) (a:Act) (w:World) (t:Bool),ops[i]? = some o→i<last→(i=m→t=false)→E a→W t w→(∀ e∈o.after,Region.binds .any e=true→R e.on (a.eval (.tmp (dst e.on))) w) → ∀ K:Act→World→Prop,(∀ x w',Good i w w'→R i x w'→K (a.put (some (dst i)) x) w')→o.wp P a w K Q)
  (hlast:∀ (o:Oper) (a:Act) (w:World),ops[last]? = some o→E a→W true w→(∀ j,j<last→R j (a.eval (.tmp (dst j))) w) → ∀ K:Act→World→Prop,(∀ a' w',Q .normal a' w'→K a' w')→o.wp P a w K Q)
  (h0:E a0) (hw0:W false w0.drew):(Code.region id ops true).wp P Q a0 w0:=by
 refine wp_region_any hm ?_
 have main:∀ (fuel:Nat) (listed:Array Bool) (a:Act) (w:World),listed.size=ops.size→listed.toList.count false≤fuel →
   ((listed.getD last true=false∧E a∧W (listed.getD m false) w∧(∀ (j:Nat) (o:Oper),ops[j]? = some o→listed.getD j false=true → ∀ e∈o.after,Region.binds .any e=true→listed.getD e.on false=true) ∧ ∀ j,j<last→listed.getD j false=true→R j (a.eval (.tmp (dst j))) w)∨((∀ i,i<ops.size→listed.getD i true=true)∧Q .normal a w)) →
   wpAny P .any ops Q fuel listed a w:=by
  intro fuel
  induction fuel with
  | zero =>
   intro listed a w hs hc hI
   have hz:∀ i,i<ops.size→listed.getD i true=true:=by
    intro i hi
    have h1:¬ false∈listed.toList:=List.count_eq_zero.mp (by omega)
    have h2:listed.getD i true=listed[i]'(by omega):=by simp [Array.getD,show i<listed.size by omega]
    rw [h2]
    cases h3:listed[i]'(by omega)
    ·exact absurd (by rw [← h3];simp) h1
    ·rfl
   rcases hI with ⟨h1,_⟩ | ⟨_,h2⟩
   ·rw [hz last (by omega)] at h1;cases h1
   ·refine ⟨?_,h2⟩
    rw [List.eq_nil_iff_forall_not_mem]
    intro i hi
    obtain ⟨h3,o,ho,_⟩:=mem_ready.1 hi
    rw [hz i (Array.getElem?_eq_some_iff.1 ho).1] at h3
    cases h3
  | succ fuel ih =>
   intro listed a w hs hc hI
   constructor
   ·intro hr
    rcases hI with ⟨h1,_⟩ | ⟨_,h2⟩
    ·exfalso
     have hleast:∀ n,∀ i,i<n→listed.getD i true=true:=by
      intro n
      induction n with
      | zero=>intro i hi;omega
      | succ n ihn =>
       intro i hi
       by_cases hin:i<n
       ·exact ihn i hin
       ·have hin:i=n:=by omega
        subst hin
        cases hf:listed.getD i true
        ·have hlt:=getD_false hf
         have hm:i∈Region.ready .any ops listed:=mem_ready.2 ⟨hf,ops[i]'(by omega),Array.getElem?_eq_getElem (by omega),fun e he _=>by
          have hlt':=hdag i _ (Array.getElem?_eq_getElem (by omega)) e he
          rw [getD_lt (by omega) false true];exact ihn _ hlt'⟩
         rw [hr] at hm;cases hm
        ·rfl
     rw [hleast (last+1) last (by omega)] at h1;cases h1
    ·exact h2
   ·intro i hi
    obtain ⟨h3,o,ho,hdep⟩:=mem_ready.1 hi
    have hil:i<ops.size:=(Array.getElem?_eq_some_iff.1 ho).1
    rcases hI with ⟨h1,hEa,hWw,hcl,hRs⟩ | ⟨h2,_⟩
    ·unfold wpOp
     simp only [ho,Region.wanted,hguard i o ho,if_true]
     refine Or.inl ?_
     have hcnt:(listed.setIfInBounds i true).toList.count false≤fuel:=by
      have hl:i<listed.toList.length:=by simp;omega
      rw [Array.toList_setIfInBounds,List.count_set hl]
      have h4:listed.toList[i]=false:=by
       have h2:listed.getD i true=listed[i]'(by omega):=by simp [Array.getD,show i<listed.size by omega]
       rw [← h3,h2];simp
      rw [h4,if_pos (by rfl),if_neg (by decide)];omega
     by_cases hil':i=last
     ·subst hil'
      have every:∀ (d j:Nat),j+d=i→0<d→listed.getD j false=true:=by
       intro d
       induction d using Nat.strongRecOn with
       | ind d ihd =>
        intro j hj hd
        obtain ⟨k,ok,hjk,hki,hok,e,he,hb,hon⟩:=hall j (by omega)
        by_cases hkl:k=i
        ·subst hkl
         rw [ho] at hok;injection hok with hok;subst hok
         have:=hdep e he hb
         rw [hon] at this;exact this
        ·have:=hcl k ok hok (ihd (i - k) (by omega) k (by omega) (by omega)) e he hb
         rw [hon] at this;exact this
      have hWt:W true w:=by
       rw [every (i - m) m (by omega) (by omega)] at hWw;exact hWw
      refine hlast o a w ho hEa hWt (fun j hj=>hRs j hj (every (i - j) j (by omega) (by omega))) _ (fun a' w' hq=>ih _ _ _ (by simpa using hs) hcnt (Or.inr ⟨fun k hk=>?_,hq⟩))
      by_cases hki:i=k
      ·subst hki;exact getD_set_self (by omega) _
      ·rw [getD_set_ne hki,getD_lt (by omega) true false]
       exact every (i - k) k (by omega) (by omega)
     ·have hil2:i<last:=by omega
      refine hfront i o a w (listed.getD m false) ho hil2 (fun e=>by rw [← e,getD_lt (by omega) false true];exact h3) hEa hWw (fun e he hb=>hRs _ ?_ (hdep e he hb)) _ (fun x w' hg hr=>?_)
      ·have:=hdag i o ho e he;omega
      ·refine ih _ _ _ (by simpa using hs) hcnt (Or.inl ⟨by rw [getD_set_ne hil'];exact h1,hE _ _ _ hil2 hEa,?_,?_,fun j hj hl=>?_⟩)
       ·by_cases him:i=m
        ·rw [← him,getD_set_self (by omega)]
         have hf:listed.getD m false=false:=by rw [← him,getD_lt (by omega) false true];exact h3
         rw [hf] at hWw
         exact hWm _ _ hWw (him ▸ hg)
        ·rw [getD_set_ne him]
         exact hW _ _ _ _ him hWw hg
       ·intro j oj hoj hl e he hb
        by_cases hij:i=j
        ·subst hij
         rw [ho] at hoj;injection hoj with hoj;subst hoj
         have:=hdag i o ho e he
         rw [getD_set_ne (by omega)];exact hdep e he hb
        ·rw [getD_set_ne hij] at hl
         have:=hcl j oj hoj hl e he hb
         by_cases hie:i=e.on
         ·rw [← hie] at this;rw [getD_lt (by omega) true false,this] at h3;cases h3
         ·rw [getD_set_ne hie];exact this
       by_cases hij:i=j
       ·subst hij;rw [eval_put_same (hsize _ hEa _ hil2)];exact hr
       ·rw [getD_set_ne hij] at hl
        rw [eval_put_other (fun he=>hij (hinj _ _ hil2 hj he))]
        exact hR _ _ _ _ _ hij (hRs j hj hl) hg
    ·rw [h2 i hil] at h3;cases h3
 have e0:∀ n:Nat,(Array.replicate n false).getD m false=false:=fun n=>by
  by_cases hh:m<n <;> simp [Array.getD,hh]
 refine main _ _ _ _ (by simp) ?_ (Or.inl ⟨?_,h0,(e0 ops.size).symm ▸ hw0,fun j o _ hl=>?_,fun j hj hl=>?_⟩)
 ·simp
 ·simp [Array.getD,hsz]
 ·simp [Array.getD] at hl
 ·simp [Array.getD] at hl
theorem region_N {id:Nat} {a0:Act} {w0:World} (hm:P.follows .mixedOrders=true) (last m:Nat) (hml:m<last) (hs:shapeB ops last=true) (dst:Nat→Nat) (hinj:∀ i,i<last → ∀ j,j<last→dst i=dst j→i=j)
  (R:Nat→Value→World→Prop) (E:Act→Prop) (W:Bool→World→Prop) (Good:Nat→World→World→Prop)
  (hE:∀ a i x,i<last→E a→E (a.put (some (dst i)) x)) (hsize:∀ a,E a → ∀ i,i<last→dst i<a.tmps.size)
  (hW:∀ i t w w',i≠m→W t w→Good i w w'→W t w') (hWm:∀ w w',W false w→Good m w w'→W true w') (hR:∀ i j x w w',i≠j→R j x w→Good i w w'→R j x w')
  (hfront:∀ (i:Nat) (o:Oper) (a:Act) (w:World) (t:Bool),ops[i]? = some o→i<last→(i=m→t=false)→E a→W t w→(∀ e∈o.after,Region.binds .any e=true→R e.on (a.eval (.tmp (dst e.on))) w) → ∀ K:Act→World→Prop,(∀ x w',Good i w w'→R i x w'→K (a.put (some (dst i)) x) w')→o.wp P a w K Q)
  (hlast:∀ (o:Oper) (a:Act) (w:World),ops[last]? = some o→E a→W true w→(∀ j,j<last→R j (a.eval (.tmp (dst j))) w) → ∀ K:Act→World→Prop,(∀ a' w',Q .normal a' w'→K a' w')→o.wp P a w K Q)
  (h0:E a0) (hw0:W false w0.drew):(Code.region id ops true).wp P Q a0 w0 :=
 region_M hm last m hml (shape_size hs) dst (fun i j hi hj h=>hinj i hi j hj h) (fun _ _ ho=>(shape_at hs ho).1) (fun _ _ ho=>(shape_at hs ho).2) (shape_all hs) R E W Good hE hsize hW hWm hR hfront hlast h0 hw0
end
def Kq (r R r' R':Nat→Rl) (B D:Nat→Prop) (w w':World):Prop:=Kx (Oz r R B D) w w' ∧ ∀ k,k<w.heap.size→r' k=r k∧R' k=R k
theorem St.both {A:Nat→Prop} {T:Tc} {C:Rc} {r R:Nat→Rl} {LB PB BB:Nat} {B D:Nat→Prop} {L M:Nat} {w:World} {cs:List (Pc (List Atr))} {s:Ts} (h:St A T C r R LB PB BB B D L M w cs s) {r1 R2:Nat→Rl} {w1 w2:World} {cs':List (Pc (List Atr))} {s':Ts} (g1:Fr r r1 w w1) (p1:Tf T r1 w1 cs' s') (g2:Fr R R2 w1 w2) (q2:Rw A C T R2 w2 cs' s') :
  St A T C r1 R2 LB PB BB B D L M w2 cs' s'∧Kq r R r1 R2 B D w w2:=by
 obtain ⟨a1,a2⟩:=h.pr.both g1 p1 g2 q2 (fun _=>False)
 have sm:∀ k,k<w.heap.size→r1 k=r k∧R2 k=R k:=fun k hk=>⟨g1.same k hk,g2.same k (Nat.lt_of_lt_of_le hk g1.size)⟩
 have kx:Kx (fun k=>r k ≠ .no∨R k ≠ .no) w w2:=⟨a2.os,a2.tape,a2.output,a2.size,fun k hk hn=>a2.keep k hk (cz_no.2 ⟨Classical.not_not.1 (fun e=>hn (Or.inl e)),Classical.not_not.1 (fun e=>hn (Or.inr e)),fun e=>e⟩)⟩
 have tA:=h.pr.q.top.2
 have aR:∀ k,A k→R k = .no:=by
  obtain ⟨ads,Xs,lv,Ls,cv,rs,rt,_⟩:=h.pr.q
  exact rt.b.aR
 refine ⟨⟨a1,h.bo.apart kx (fun k hk e=>?_),h.le.apart kx (fun k hk e=>?_) (fun k hk e=>?_),fun k hk=>?_,fun k hk=>?_⟩,⟨kx.wide (fun k _ e=>e.imp id Or.inl),sm⟩⟩
 ·exact e.elim (fun e=>e (h.sB k hk).1) (fun e=>e (h.sB k hk).2.1)
 ·exact e.elim (fun e=>e (h.sD k hk).1) (fun e=>e (h.sD k hk).2.1)
 ·exact e.elim (fun e=>e (h.pr.ar k hk)) (fun e=>e (aR k hk))
 ·have:=sm k (h.bo.lt k hk)
  rw [this.1,this.2];exact h.sB k hk
 ·have:=sm k (h.le.lt k hk)
  rw [this.1,this.2];exact h.sD k hk
def TfP (T:Tc) (r:Nat→Rl) (code:Int) (cs':List (Pc (List Atr))) (s':Ts) (w:World) (e:Ending) (w':World):Prop:=e = .returned (.int .i64 code) ∧ ∃ r',Tf T r' w' cs' s'∧Fr r r' w w'
def RwP (A:Nat→Prop) (C:Rc) (T:Tc) (R:Nat→Rl) (code:Int) (cs':List (Pc (List Atr))) (s':Ts) (w:World) (e:Ending) (w':World):Prop:=e = .returned (.int .i64 code) ∧ ∃ R',Rw A C T R' w' cs' s'∧Fr R R' w w'
theorem TfP.none' {T:Tc} {r:Nat→Rl} {code:Int} {cs:List (Pc (List Atr))} {s:Ts} {w:World} {e:Ending} {w':World} (h:Tf T r w cs s) (he:e = .returned (.int .i64 code)∧Gr w w'):TfP T r code cs s w e w':=⟨he.1,r,h.gr he.2,Fr.gr he.2⟩
theorem attach_both {A:Nat→Prop} {T:Tc} {C:Rc} {r R:Nat→Rl} {w:World} {cs:List (Pc (List Atr))} {s:Ts} (h:Tf T r w cs s) (hq:Rw A C T R w cs s) (n b:Int) (hn:I64 n) (hl:cs.length≤16) :
  ∃ (code:Int) (cs':List (Pc (List Atr))),(cs'=cs ∨ ∃ b':Nat,b=(b':Int)∧b'<T.nb∧(∀ c∈cs,c.num≠n)∧cs.length<16∧cs'=cs++[⟨n,b',0,[]⟩]) ∧
   (∀ W,Gr w W→Calls Tryz.prog 36 #[.pointer (some ⟨T.TB,0,none⟩),.int .i64 n,.int .i64 b] W fun e w'=>TfP T r code cs' s W e w') ∧
   ∀ W,Rw A C T R W cs s→Calls Tryz.prog 59 #[.pointer (some ⟨C.TB,0,none⟩),.int .i64 n,.int .i64 b] W fun e w'=>RwP A C T R code cs' s W e w':=by
 obtain ⟨cls,hT,hcs⟩:=h
 by_cases hb:b<0∨(T.nb:Int)≤b
 ·refine ⟨5,cs,Or.inl rfl,fun W g=>(Attach_out T r W cls s n b (hT.gr g) hb).mono (fun e w' he=>TfP.none' ⟨cls,hT.gr g,hcs⟩ he),fun W hW=>?_⟩
  obtain ⟨ads,Xs,lv,Ls,cv,rs,rt,hnb,rv,hr⟩:=hW
  refine (rAttach_out C.TB C.HB C.nb C.hcap W n b rt.c0 (by rw [hnb];exact hb)).mono ?_
  rintro e w' ⟨he,rfl⟩
  exact ⟨he,R,⟨ads,Xs,lv,Ls,cv,rs,rt,hnb,rv,hr⟩,Fr.refl _ _⟩
 ·obtain ⟨b',rfl⟩:∃ b':Nat,b=(b':Int):=⟨b.toNat,by omega⟩
  have hb':b'<T.nb:=by omega
  by_cases ht:∃ c∈cs,c.num=n
  ·obtain ⟨c,hc,rfl⟩:=ht
   subst hcs
   obtain ⟨x,hx,rfl⟩:=List.mem_map.1 hc
   refine ⟨6,_,Or.inl rfl,fun W g=>(Attach_twice T r W cls s b' x (hT.gr g) hb' hx).mono (fun e w' he=>TfP.none' ⟨cls,hT.gr g,rfl⟩ he),fun W hW=>?_⟩
   obtain ⟨ads,Xs,lv,Ls,cv,rs,rt,hnb,rv,hr⟩:=hW
   obtain ⟨ca,cc,rfl⟩:=rt.k.cl.shape
   have hrl:rs.length≤16:=by rw [← List.length_map (f:=pcR),hr];exact hl
   have hex:∃ d∈rs,d.num=(pcOf x).num:=by
    rw [← hr] at hc
    obtain ⟨d,hd,e⟩:=List.mem_map.1 hc
    exact ⟨d,hd,by rw [← e];rfl⟩
   refine (rAttach_no C.TB C.HB C.nb C.hcap ca cc rs W _ b' (by omega) rt.c0 rt.c2 rt.k.cl.rowAt hrl (Or.inl hex)).mono ?_
   rintro e w' ⟨he,_,rfl⟩
   exact ⟨he hex,R,⟨ads,Xs,lv,Ls,_,rs,rt,hnb,rv,hr⟩,Fr.refl _ _⟩
  ·have hne:∀ c∈cs,c.num≠n:=fun c hc e=>ht ⟨c,hc,e⟩
   have hne':∀ x∈cls,x.num≠n:=fun x hx e=>hne (pcOf x) (by rw [← hcs];exact List.mem_map_of_mem hx) e
   have hll:cls.length=cs.length:=by rw [← hcs,List.length_map]
   by_cases hf:cs.length=16
   ·refine ⟨7,cs,Or.inl rfl,fun W g=>(Attach_full T r W cls s n b' (hT.gr g) hn hb' hne' (by omega) (by omega)).mono (fun e w' he=>TfP.none' ⟨cls,hT.gr g,hcs⟩ he),fun W hW=>?_⟩
    obtain ⟨ads,Xs,lv,Ls,cv,rs,rt,hnb,rv,hr⟩:=hW
    obtain ⟨ca,cc,rfl⟩:=rt.k.cl.shape
    have hrl:rs.length=16:=by rw [← List.length_map (f:=pcR),hr];exact hf
    refine (rAttach_no C.TB C.HB C.nb C.hcap ca cc rs W _ b' (by omega) rt.c0 rt.c2 rt.k.cl.rowAt (by omega) (Or.inr (by omega))).mono ?_
    rintro e w' ⟨_,he,rfl⟩
    exact ⟨he (fun d hd e=>hne (pcR d) (by rw [← hr];exact List.mem_map_of_mem hd) e),R,⟨ads,Xs,lv,Ls,_,rs,rt,hnb,rv,hr⟩,Fr.refl _ _⟩
   ·refine ⟨0,cs++[⟨n,b',0,[]⟩],Or.inr ⟨b',rfl,hb',hne,by omega,rfl⟩,fun W g=>(Attach_new T r W cls s n b' (hT.gr g) hn hb' hne' (by omega)).mono ?_,fun W hW=>?_⟩
    ·rintro e w' ⟨he,r',k,q,h1,h2⟩
     exact ⟨he,r',⟨_,h1,by rw [List.map_append,hcs];rfl⟩,h2⟩
    ·obtain ⟨ads,Xs,lv,Ls,cv,rs,rt,hnb,rv,hr⟩:=hW
     have hrl:rs.length=cs.length:=by rw [← hr,List.length_map]
     refine (rAttach_ok A C R W ads Xs lv cv Ls rs rt n b' (by omega) (fun d hd e=>hne (pcR d) (by rw [← hr];exact List.mem_map_of_mem hd) e) (by omega)).mono ?_
     rintro e w' ⟨he,R',cv',h1,h2⟩
     exact ⟨he,R',⟨ads,Xs,lv,Ls,cv',_,h1,hnb,rv,by rw [List.map_append,hr];rfl⟩,h2⟩
def stepV (wh kind a b:Int) (fad:Option Addr) (fn fc:Nat) (ead:Option Addr) (en ec:Nat):Value:=.agg #[.int .i64 wh,.int .i64 kind,.int .i64 a,.int .i64 b,.slice fad fn fc,.slice ead en ec]
def MidP (T:Tc) (r:Nat→Rl) (cs':List (Pc (List Atr))) (s':Ts) (w:World) (OB:Nat) (o:Obj) (w1:World):Prop:=∃ r1,Tf T r1 w1 cs' s'∧Fr r r1 w w1∧w1.heap[OB]? = some o
def RsA (PB TB OB:Nat) (a b code:Int) (j:Nat) (x:Value) (_:World):Prop :=
 match j with
 | 0=>x = .pointer (some ⟨PB,0,none⟩)
 | 1=>x = .pointer (some ⟨PB,0,none⟩)
 | 2=>x = .pointer (some ⟨PB,0,none⟩)
 | 3=>x = .pointer (some ⟨TB,0,none⟩)
 | 4=>x = .pointer (some ⟨OB,2,none⟩)
 | 5=>x = .int .i64 a
 | 6=>x = .pointer (some ⟨OB,3,none⟩)
 | 7=>x = .int .i64 b
 | 8=>x = .int .i64 code
 | _=>True
theorem RsA.st {PB TB OB:Nat} {a b code:Int} (j:Nat) (x:Value) (wa wb:World) (h:RsA PB TB OB a b code j x wa):RsA PB TB OB a b code j x wb:=by
 match j,h with
 | 0,h=>exact h
 | 1,h=>exact h
 | 2,h=>exact h
 | 3,h=>exact h
 | 4,h=>exact h
 | 5,h=>exact h
 | 6,h=>exact h
 | 7,h=>exact h
 | 8,h=>exact h
 | _+9,_=>trivial
def RsB (PB TB OB:Nat) (a b code:Int) (j:Nat) (x:Value) (_:World):Prop :=
 match j with
 | 0=>x = .int .i64 code
 | 1=>x = .int .i64 code
 | 2=>x = .pointer (some ⟨PB,0,none⟩)
 | 3=>x = .pointer (some ⟨PB,0,none⟩)
 | 4=>x = .pointer (some ⟨PB,1,none⟩)
 | 5=>x = .pointer (some ⟨TB,0,none⟩)
 | 6=>x = .pointer (some ⟨OB,2,none⟩)
 | 7=>x = .int .i64 a
 | 8=>x = .pointer (some ⟨OB,3,none⟩)
 | 9=>x = .int .i64 b
 | 10=>x = .int .i64 code
 | 11=>x = .bool true
 | _=>True
theorem RsB.st {PB TB OB:Nat} {a b code:Int} (j:Nat) (x:Value) (wa wb:World) (h:RsB PB TB OB a b code j x wa):RsB PB TB OB a b code j x wb:=by
 match j,h with
 | 0,h=>exact h
 | 1,h=>exact h
 | 2,h=>exact h
 | 3,h=>exact h
 | 4,h=>exact h
 | 5,h=>exact h
 | 6,h=>exact h
 | 7,h=>exact h
 | 8,h=>exact h
 | 9,h=>exact h
 | 10,h=>exact h
 | 11,h=>exact h
 | _+12,_=>trivial
def Both2 (A:Nat→Prop) (T:Tc) (C:Rc) (r R:Nat→Rl) (w:World) (cs:List (Pc (List Atr))) (s:Ts) (fp fr:Nat) (a b:Int) (Ch:List (Pc (List Atr))→Ts→Prop):Prop :=
 ∃ (code:Int) (cs':List (Pc (List Atr))) (s':Ts),Ch cs' s'∧(∀ W,Gr w W→Calls Tryz.prog fp #[.pointer (some ⟨T.TB,0,none⟩),.int .i64 a,.int .i64 b] W fun e w'=>TfP T r code cs' s' W e w') ∧
  ∀ W,Rw A C T R W cs s→Calls Tryz.prog fr #[.pointer (some ⟨C.TB,0,none⟩),.int .i64 a,.int .i64 b] W fun e w'=>RwP A C T R code cs' s' W e w'
def StepP (A:Nat→Prop) (T:Tc) (C:Rc) (r R:Nat→Rl) (LB PB BB:Nat) (B D:Nat→Prop) (L M:Nat) (Ch:List (Pc (List Atr))→Ts→Prop) (w:World) (e:Ending) (w':World):Prop :=
 e = .returned (.bool true) ∧ ∃ r' R' cs' s',Ch cs' s'∧St A T C r' R' LB PB BB B D L M w' cs' s'∧Kq r R r' R' B D w w'
end Go.Proofs.YtecnfgikbmcgoaaGreat
