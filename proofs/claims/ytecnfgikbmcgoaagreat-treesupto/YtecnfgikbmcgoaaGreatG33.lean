import Derived.Test.YtecnfgikbmcgoaaGreatG31
import Derived.Test.YtecnfgikbmcgoaaGreatG32
namespace Go.Proofs.YtecnfgikbmcgoaaGreat
open Go.RowKit
def vat (ls:List Value) (i:Nat):Value:=ls.getD i undef
theorem vat_get {ls:List Value} {i:Nat} (h:i<ls.length):ls[i]? = some (vat ls i):=by simp [vat,List.getD_eq_getElem?_getD,List.getElem?_eq_getElem h]
structure BkL (T TS:TypeId) (sz base:Nat) (mkf:Nat→List Value) (w:World) (v:Value) (ls:List Value):Prop where
 own:w.ownsRow base TS 1 v ls.length ls
 ok:∀ i,i<ls.length → ∃ ad n cap,vat ls i = .slice ad n cap∧n≤1099511627779∧w.ownsRow base T sz (.slice ad n cap) n (rep n (mkf (i / 4)))
def mkLj (j:Nat):List Value:=mkL (-1 - (j:Int)*4)
def mkYj (j:Nat):List Value:=mkY (-1 - (j:Int)*4)
theorem rep_at (n p j:Nat) (mk:List Value) (x:Value) (h:p<n) (hx:mk[j]? = some x):(rep n mk)[p*mk.length+j]? = some x:=by
 obtain ⟨m,rfl⟩:=Nat.exists_eq_add_of_le (show p+1≤n by omega)
 have hj:j<mk.length:=(List.getElem?_eq_some_iff.1 hx).1
 rw [rep_add,rep_add,rep_one,List.append_assoc,List.getElem?_append_right (by rw [rep_len];omega),rep_len,Nat.add_sub_cancel_left,List.getElem?_append_left hj,hx]
theorem BkL.kept {T TS:TypeId} {base:Nat} {mkf:Nat→List Value} {wa wb:World} {v vi' x:Value} {ls us:List Value} {n:Nat} {sz:Nat} {own:Option Nat} (h:BkL T TS sz 0 mkf wa v ls) (hsz:(mkf (ls.length / 4)).length=sz)
  (k:Kept T TS own base wa wb (mkf (ls.length / 4)) n x vi' ls us) (hTT:T≠TS) (hTB:T≠89) (hap:∀ i,i<ls.length → ∀ q,(vat ls i).ownBlock=some q→own≠some q) (hn:n≤1099511627776) (h4:ls.length % 4=0) :
  us.length=ls.length+4∧BkL T TS sz 0 mkf wb vi' us∧(∀ i,i<ls.length→vat us i=vat ls i) ∧ ∀ i,ls.length≤i→i<us.length → ∀ q,(vat us i).ownBlock=some q→base≤q:=by
 obtain ⟨v1,v2,v3,rfl,o0,o1,o2,o3⟩:=k.ex
 rw [hsz] at o0 o1 o2 o3
 have old:∀ i,i<ls.length→vat (ls++[x,v1,v2,v3]) i=vat ls i:=fun i hl=>by
  unfold vat;rw [List.getD_eq_getElem?_getD,List.getD_eq_getElem?_getD,List.getElem?_append_left hl]
 have new:∀ i,ls.length≤i→i<ls.length+4 → ∃ ad n cap,vat (ls++[x,v1,v2,v3]) i = .slice ad n cap∧n≤1099511627779∧wb.ownsRow base T sz (.slice ad n cap) n (rep n (mkf (ls.length / 4))):=by
  intro i hl hi4
  have one:∀ (j m:Nat) (u:Value),i=ls.length+j→[x,v1,v2,v3][j]? = some u→m≤1099511627779→wb.ownsRow base T sz u m (rep m (mkf (ls.length / 4))) → ∃ ad n cap,vat (ls++[x,v1,v2,v3]) i = .slice ad n cap∧n≤1099511627779∧wb.ownsRow base T sz (.slice ad n cap) n (rep n (mkf (ls.length / 4))):=by
   intro j m u hj hu hm ho
   obtain ⟨ad,cap,rfl,_⟩:=owns_shape ho
   refine ⟨ad,m,cap,?_,hm,ho⟩
   unfold vat;rw [List.getD_eq_getElem?_getD,List.getElem?_append_right (by omega),hj,Nat.add_sub_cancel_left,hu];rfl
  obtain ⟨j,hj,hj4⟩:∃ j,i=ls.length+j∧j<4:=⟨i - ls.length,by omega,by omega⟩
  match j,hj4 with
  | 0,_=>exact one 0 n x hj rfl (by omega) o0
  | 1,_=>exact one 1 _ v1 hj rfl (by omega) o1
  | 2,_=>exact one 2 _ v2 hj rfl (by omega) o2
  | 3,_=>exact one 3 _ v3 hj rfl (by omega) o3
 refine ⟨by simp,⟨k.vi,fun i hi=>?_⟩,old,fun i hl hi q hq=>?_⟩
 ·by_cases hl:i<ls.length
  ·obtain ⟨ad,n,cap,h1,h2,h3⟩:=h.ok i hl
   have hap':=hap i hl
   rw [h1] at hap'
   exact ⟨ad,n,cap,(old i hl).trans h1,h2,k.fr.owns h3 (by simp [hTT,hTB]) hap'⟩
  ·have hi4:i<ls.length+4:=by simpa using hi
   obtain ⟨ad,n,cap,h1,h2,h3⟩:=new i (by omega) hi4
   have e4:i / 4=ls.length / 4:=by omega
   rw [e4]
   exact ⟨ad,n,cap,h1,h2,owns_down h3 (Nat.zero_le _)⟩
 ·have hi4:i<ls.length+4:=by simpa using hi
  obtain ⟨ad,n,cap,h1,h2,h3⟩:=new i hl hi4
  rw [h1] at hq
  exact own_low h3 q hq
set_option maxRecDepth 100000 in
set_option maxHeartbeats 4000000 in
theorem lists_none (BB:Nat) (a3 a4 a5:Value) (w:World) (hbx:w.heap[BB]? = some (.cells #[.slice none 0 0,.slice none 0 0,.slice none 0 0,a3,a4,a5] 89 (0,0))) :
  Calls Tryz.prog 72 #[.pointer (some ⟨BB,0,none⟩)] w fun e w'=>e = .returned (.bool true)∧Gr w w':=by
 have c0:w.cell? ⟨BB,0,none⟩=some (.slice none 0 0):=by rw [cell_of_row _ _ _ _ _ _ hbx];rfl
 have c1:w.cell? ⟨BB,1,none⟩=some (.slice none 0 0):=by rw [cell_of_row _ _ _ _ _ _ hbx];rfl
 have c2:w.cell? ⟨BB,2,none⟩=some (.slice none 0 0):=by rw [cell_of_row _ _ _ _ _ _ hbx];rfl
 clear hbx
 go_enter Tryz.func72,Tryz.ntmps72
 go_wp2_with fail
 go_loopw [3] (fun i w1=>i = .int .i64 0∧w1=w) (fun _ _=>0)
 case atStart=>exact ⟨rfl,rfl⟩
 case round =>
  obtain ⟨rfl,rfl⟩:=hrel
  go_wp2_with fail
  go_loopw [5] (fun i w1=>i = .int .i64 0∧w1=wr) (fun _ _=>0)
  case atStart=>exact ⟨rfl,rfl⟩
  case round =>
   obtain ⟨rfl,rfl⟩:=hrel
   go_wp2_with fail
   go_loopw [7] (fun i w1=>i = .int .i64 0∧w1=wr) (fun _ _=>0)
   case atStart=>exact ⟨rfl,rfl⟩
   case round =>
    obtain ⟨rfl,rfl⟩:=hrel
    go_wp2_with fail
    go_ret
    exact ⟨rfl,Gr.refl _⟩
set_option maxRecDepth 100000 in
set_option maxHeartbeats 4000000 in
theorem whole_any (BB base:Nat) (lad kad:Option Addr) (lc kc:Nat) (ll lk:List Value) (w:World) (hll:ll.length≤1099511627776) (hlk:lk.length≤1099511627776)
  (hbx:w.heap[BB]? = some (.cells #[.slice none 0 0,.slice none 0 0,.slice none 0 0,.slice none 0 0,.slice lad ll.length lc,.slice kad lk.length kc] 89 (0,0)))
  (hL:BkL 54 51 3 base mkLj w (.slice lad ll.length lc) ll) (hY:BkL 112 41 2 base mkYj w (.slice kad lk.length kc) lk) :
  Calls Tryz.prog 33 #[.pointer (some ⟨BB,0,none⟩)] w fun e w'=>e = .returned (.bool true)∧Gr w w':=by
 have HL:=Hid.mk' hL
 have HY:=Hid.mk' hY
 have HBX:=Hid.mk' hbx
 have CC:Hid (∀ W,Gr w W→W.cell? ⟨BB,3,none⟩=some (.slice none 0 0)∧W.cell? ⟨BB,4,none⟩=some (.slice lad ll.length lc)∧W.cell? ⟨BB,5,none⟩=some (.slice kad lk.length kc)):=fun W g=>by
  have b:=blk_gr g hbx
  refine ⟨?_,?_,?_⟩ <;> (rw [cell_of_row _ _ _ _ _ _ b];rfl)
 obtain ⟨c3,c4,c5⟩:=CC.out w (Gr.refl _)
 clear hL hY hbx
 go_enter Tryz.func33,Tryz.ntmps33
 go_wp2_with fail
 go_loopw [3] (fun i w1=>i = .int .i64 0∧w1=w) (fun _ _=>0)
 case atStart=>exact ⟨rfl,rfl⟩
 case round =>
  obtain ⟨rfl,hwe⟩:=hrel
  have hwe':=hwe.symm
  clear hwe
  subst hwe'
  have G:Hid (Gr w w):=Gr.refl _
  go_wp2_with fail
  clear c3 c4 c5
  go_loopw [6] (fun i wr=>∃ q:Nat,q≤ll.length∧i = .int .i64 q∧Hid (Gr w wr)) (fun i _=>ll.length - (intOf i).toNat)
  case atStart=>exact ⟨0,Nat.zero_le _,rfl,G⟩
  case round =>
   clear G
   obtain ⟨q,hq,rfl,G⟩:=hrel
   obtain ⟨c3,c4,c5⟩:=CC.out _ G.out
   by_cases hlt:q<ll.length
   ·obtain ⟨ad,n,cap,he,hn,ho⟩:=HL.out.ok q hlt
    have HO:=Hid.mk' ho
    have HE:=Hid.mk' he
    have HR:=Hid.mk' (ownsGr HL.out.own G.out)
    obtain ⟨lad',lc',hx,hla⟩:=owns_shape HL.out.own
    obtain ⟨lb,hlb⟩:∃ b,lad=some ⟨b,0,none⟩:=by
     obtain ⟨b,hb⟩:=hla (by omega)
     injection hx with h1 _ _
     exact ⟨b,by rw [h1];exact hb⟩
    subst hlb
    have d1:wr.cell? ⟨lb,q,none⟩=some (.slice ad n cap):=by rw [World.ownsRow.cellAt HR.out q (by omega),vat_get hlt,he]
    clear hx hla ho he
    go_wp2_with fail
    go_loopw [7] (fun i w1=>∃ p:Nat,p≤n∧i = .int .i64 p∧Hid (Gr w w1)) (fun i _=>n - (intOf i).toNat)
    case atStart=>exact ⟨0,Nat.zero_le _,rfl,G⟩
    case round =>
     obtain ⟨p,hp,rfl,G1⟩:=hrel
     clear c3 c4 c5 d1 HR G
     obtain ⟨c3,c4,c5⟩:=CC.out _ G1.out
     have d1:wr.cell? ⟨lb,q,none⟩=some (.slice ad n cap):=by rw [World.ownsRow.cellAt (ownsGr HL.out.own G1.out) q (by omega),vat_get hlt];exact congrArg some HE.out
     by_cases hpl:p<n
     ·obtain ⟨ad',cap',hx,hla⟩:=owns_shape HO.out
      obtain ⟨gb,rfl⟩:∃ b,ad=some ⟨b,0,none⟩:=by
       obtain ⟨b,hb⟩:=hla (by omega)
       injection hx with h1 _ _
       exact ⟨b,by rw [h1];exact hb⟩
      have e0:wr.cell? ⟨gb,p*3,none⟩=some (.int .i64 0):=by rw [World.ownsRow.cellAt (ownsGr HO.out G1.out) _ (by omega)];exact rep_at n p 0 (mkL (-1 - ((q / 4:Nat):Int)*4)) _ hpl rfl
      have e1:wr.cell? ⟨gb,p*3+1,none⟩=some (.int .i64 0):=by rw [World.ownsRow.cellAt (ownsGr HO.out G1.out) _ (by omega)];exact rep_at n p 1 (mkL (-1 - ((q / 4:Nat):Int)*4)) _ hpl rfl
      have e2:wr.cell? ⟨gb,p*3+1+1,none⟩=some (.int .i64 (-1 - ((q / 4:Nat):Int)*4)):=by rw [World.ownsRow.cellAt (ownsGr HO.out G1.out) _ (by omega)];exact rep_at n p 2 (mkL (-1 - ((q / 4:Nat):Int)*4)) _ hpl rfl
      clear hx hla
      go_wp2_with fail
      refine ⟨⟨p+1,by omega,by go_num,G1⟩,?_⟩
      simp [intOf];omega
     ·go_wp2_with fail
      go_roundw
      case rel=>exact ⟨q+1,by omega,by go_num,G1⟩
      case measure=>simp [intOf];omega
   ·go_wp2_with fail
    go_loopw [8] (fun i wr=>∃ q:Nat,q≤lk.length∧i = .int .i64 q∧Hid (Gr w wr)) (fun i _=>lk.length - (intOf i).toNat)
    case atStart=>exact ⟨0,Nat.zero_le _,rfl,G⟩
    case round =>
     clear G
     obtain ⟨q,hq,rfl,G⟩:=hrel
     obtain ⟨c3,c4,c5⟩:=CC.out _ G.out
     by_cases hlt:q<lk.length
     ·obtain ⟨ad,n,cap,he,hn,ho⟩:=HY.out.ok q hlt
      have HO:=Hid.mk' ho
      have HE:=Hid.mk' he
      have HR:=Hid.mk' (ownsGr HY.out.own G.out)
      obtain ⟨lad',lc',hx,hla⟩:=owns_shape HY.out.own
      obtain ⟨lb,hlb⟩:∃ b,kad=some ⟨b,0,none⟩:=by
       obtain ⟨b,hb⟩:=hla (by omega)
       injection hx with h1 _ _
       exact ⟨b,by rw [h1];exact hb⟩
      subst hlb
      have d1:wr.cell? ⟨lb,q,none⟩=some (.slice ad n cap):=by rw [World.ownsRow.cellAt HR.out q (by omega),vat_get hlt,he]
      clear hx hla ho he
      go_wp2_with fail
      go_loopw [9] (fun i w1=>∃ p:Nat,p≤n∧i = .int .i64 p∧Hid (Gr w w1)) (fun i _=>n - (intOf i).toNat)
      case atStart=>exact ⟨0,Nat.zero_le _,rfl,G⟩
      case round =>
       obtain ⟨p,hp,rfl,G1⟩:=hrel
       clear c3 c4 c5 d1 HR G
       obtain ⟨c3,c4,c5⟩:=CC.out _ G1.out
       have d1:wr.cell? ⟨lb,q,none⟩=some (.slice ad n cap):=by rw [World.ownsRow.cellAt (ownsGr HY.out.own G1.out) q (by omega),vat_get hlt];exact congrArg some HE.out
       by_cases hpl:p<n
       ·obtain ⟨ad',cap',hx,hla⟩:=owns_shape HO.out
        obtain ⟨gb,rfl⟩:∃ b,ad=some ⟨b,0,none⟩:=by
         obtain ⟨b,hb⟩:=hla (by omega)
         injection hx with h1 _ _
         exact ⟨b,by rw [h1];exact hb⟩
        have e0:wr.cell? ⟨gb,p*2,none⟩=some (.int .i64 0):=by rw [World.ownsRow.cellAt (ownsGr HO.out G1.out) _ (by omega)];exact rep_at n p 0 (mkY (-1 - ((q / 4:Nat):Int)*4)) _ hpl rfl
        have e1:wr.cell? ⟨gb,p*2+1,none⟩=some (.int .i64 (-1 - ((q / 4:Nat):Int)*4)):=by rw [World.ownsRow.cellAt (ownsGr HO.out G1.out) _ (by omega)];exact rep_at n p 1 (mkY (-1 - ((q / 4:Nat):Int)*4)) _ hpl rfl
        clear hx hla
        go_wp2_with fail
        refine ⟨⟨p+1,by omega,by go_num,G1⟩,?_⟩
        simp [intOf];omega
       ·go_wp2_with fail
        go_roundw
        case rel=>exact ⟨q+1,by omega,by go_num,G1⟩
        case measure=>simp [intOf];omega
     ·go_wp2_with fail
      refine (lists_none BB _ _ _ _ (blk_gr G.out HBX.out)).mono ?_
      rintro e w1 ⟨rfl,g1⟩
      have G9:=Hid.mk' (Gr.call G.out g1)
      clear g1
      go_wp2_with fail
      go_ret
      exact ⟨rfl,G9.out⟩
open Classical in
noncomputable def cz (r R:Nat→Rl) (E:Nat→Prop):Nat→Rl:=fun k=>if r k = .no∧R k = .no ∧ ¬ E k then .no else .lm
theorem cz_no {r R:Nat→Rl} {E:Nat→Prop} {k:Nat}:(cz r R E k = .no∨cz r R E k = .fx)↔r k = .no∧R k = .no ∧ ¬ E k:=by
 unfold cz
 split
 ·rename_i h;exact ⟨fun _=>h,fun _=>Or.inl rfl⟩
 ·rename_i h
  refine ⟨fun e=>?_,fun e=>absurd e h⟩
  rcases e with e | e <;> cases e
theorem Fr.czl {r r' R:Nat→Rl} {w w':World} (h:Fr r r' w w') (E:Nat→Prop):Fr (cz r R E) (cz r' R E) w w' :=
 ⟨h.os,h.tape,h.output,h.size,fun k hk hr=>h.keep k hk (Or.inl (cz_no.1 hr).1),fun k hk=>by unfold cz;rw [h.same k hk]⟩
theorem Fr.czr {r R R':Nat→Rl} {w w':World} (h:Fr R R' w w') (E:Nat→Prop):Fr (cz r R E) (cz r R' E) w w' :=
 ⟨h.os,h.tape,h.output,h.size,fun k hk hr=>h.keep k hk (Or.inl (cz_no.1 hr).2.1),fun k hk=>by unfold cz;rw [h.same k hk]⟩
theorem Rw.top {A:Nat→Prop} {C:Rc} {T:Tc} {R:Nat→Rl} {w:World} {cs:List (Pc (List Atr))} {s:Ts} (h:Rw A C T R w cs s):(∀ k,w.heap.size≤k→R k = .no) ∧ ∀ k,A k→k<w.heap.size:=by
 obtain ⟨ads,Xs,lv,Ls,cv,rs,h1,_⟩:=h
 exact ⟨h1.b.top,h1.b.aL⟩
def lent0:Array Value:=#[.slice none 0 0,.slice none 0 0,.slice none 0 0,.slice none 0 0]
structure Pr (A:Nat→Prop) (T:Tc) (C:Rc) (r R:Nat→Rl) (LB PB BB:Nat) (w:World) (cs:List (Pc (List Atr))) (s:Ts):Prop where
 p:Tf T r w cs s
 q:Rw A C T R w cs s
 ap:∀ k,r k = .no∨R k = .no
 ar:∀ k,A k→r k = .no
 R0:R 0 = .no
 pb:w.heap[PB]? = some (.cells #[.pointer (some ⟨T.TB,0,none⟩),.pointer (some ⟨C.TB,0,none⟩),.pointer (some ⟨LB,0,none⟩),.pointer (some ⟨BB,0,none⟩)] 103 (0,0))
 np:r PB = .no∧R PB = .no
section
variable {A:Nat→Prop} {T:Tc} {C:Rc} {r R:Nat→Rl} {LB PB BB:Nat} {w:World} {cs:List (Pc (List Atr))} {s:Ts}
theorem Pr.gr (h:Pr A T C r R LB PB BB w cs s) {w':World} (g:Gr w w'):Pr A T C r R LB PB BB w' cs s :=
 ⟨h.p.gr g,h.q.gr g,h.ap,h.ar,h.R0,blk_gr g h.pb,h.np⟩
theorem Pr.apart (h:Pr A T C r R LB PB BB w cs s) {z z':Nat→Rl} {w':World} (g:Fr z z' w w') (hr:∀ k,r k = .no∨z k = .no) (hR:∀ k,R k = .no∨z k = .no) (hA:∀ k,A k→z k = .no) (h0:z 0 = .no) (hp:z PB = .no):Pr A T C r R LB PB BB w' cs s :=
 ⟨h.p.apart g hr h0,h.q.apart g hR hA,h.ap,h.ar,h.R0,(g.keep PB (blk_lt h.pb) (Or.inl hp)).trans h.pb,h.np⟩
theorem Pr.mid (h:Pr A T C r R LB PB BB w cs s) {r1:Nat→Rl} {w1:World} (g:Fr r r1 w w1):Rw A C T R w1 cs s:=h.q.apart g (fun k=>(h.ap k).symm) h.ar
theorem Pr.both (h:Pr A T C r R LB PB BB w cs s) {r1 R2:Nat→Rl} {w1 w2:World} {cs':List (Pc (List Atr))} {s':Ts} (g1:Fr r r1 w w1) (p1:Tf T r1 w1 cs' s') (g2:Fr R R2 w1 w2) (q2:Rw A C T R2 w2 cs' s') (E:Nat→Prop) :
  Pr A T C r1 R2 LB PB BB w2 cs' s'∧Fr (cz r R E) (cz r1 R2 E) w w2:=by
 have t1:=h.q.top.1
 have tA:=h.q.top.2
 have l0:0<w.heap.size:=h.p.b.ml.pos
 have ap1:∀ k,r1 k = .no∨R k = .no:=fun k=>by
  rcases Nat.lt_or_ge k w.heap.size with hk | hk
  ·rw [g1.same k hk];exact h.ap k
  ·exact Or.inr (t1 k hk)
 have kp:=blk_lt h.pb
 have kp1:=Nat.lt_of_lt_of_le kp g1.size
 have pb1:=(g1.keep PB kp (Or.inl h.np.1)).trans h.pb
 refine ⟨⟨p1.apart g2 ap1 h.R0,q2,fun k=>?_,fun k hk=>by rw [g1.same k (tA k hk)];exact h.ar k hk,by rw [g2.same 0 (Nat.lt_of_lt_of_le l0 g1.size)];exact h.R0,(g2.keep PB kp1 (Or.inl h.np.2)).trans pb1,⟨by rw [g1.same PB kp];exact h.np.1,by rw [g2.same PB kp1];exact h.np.2⟩⟩,(g1.czl E).trans (g2.czr E)⟩
 rcases Nat.lt_or_ge k w1.heap.size with hk | hk
 ·rw [g2.same k hk];exact ap1 k
 ·exact Or.inl (p1.b.top k hk)
end
theorem num_any (n:Int) (w:World):Calls Tryz.prog 58 #[.int .i64 n] w fun e w'=>e = .returned (.int .i64 n)∧w'=w:=by
 go_enter Tryz.func58,Tryz.ntmps58
 go_wp2_with fail
 go_ret
 exact ⟨rfl,rfl⟩
structure Kx (E:Nat→Prop) (w w':World):Prop where
 os:w'.os=w.os
 tape:w'.tape=w.tape
 output:w'.output=w.output
 size:w.heap.size≤w'.heap.size
 keep:∀ k,k<w.heap.size → ¬ E k→w'.heap[k]? = w.heap[k]?
theorem Kx.gr {E:Nat→Prop} {w w':World} (g:Gr w w'):Kx E w w':=⟨g.os,g.tape,g.output,g.size,fun k hk _=>g.block k hk⟩
theorem Kx.trans {E E1:Nat→Prop} {w w1 w2:World} (h:Kx E w w1) (k:Kx E1 w1 w2) (hE:∀ k,k<w.heap.size→E1 k→E k):Kx E w w2 :=
 ⟨k.os.trans h.os,k.tape.trans h.tape,k.output.trans h.output,Nat.le_trans h.size k.size,fun i hi hn=>(k.keep i (Nat.lt_of_lt_of_le hi h.size) (fun e=>hn (hE i hi e))).trans (h.keep i hi hn)⟩
theorem Kx.wide {E E1:Nat→Prop} {w w1:World} (h:Kx E w w1) (hE:∀ k,k<w.heap.size→E k→E1 k):Kx E1 w w1 :=
 ⟨h.os,h.tape,h.output,h.size,fun k hk hn=>h.keep k hk (fun e=>hn (hE k hk e))⟩
theorem Fr.kx {r r':Nat→Rl} {w w':World} (h:Fr r r' w w'):Kx (fun k=>r k ≠ .no) w w' :=
 ⟨h.os,h.tape,h.output,h.size,fun k hk hn=>h.keep k hk (Or.inl (Classical.not_not.1 hn))⟩
open Classical in
noncomputable def kz (E:Nat→Prop):Nat→Rl:=fun k=>if E k then .lm else .no
theorem kz_no {E:Nat→Prop} {k:Nat} (h:¬ E k):kz E k = .no:=by unfold kz;rw [if_neg h]
theorem Kx.fr {E:Nat→Prop} {w w':World} (h:Kx E w w'):Fr (kz E) (kz E) w w' :=
 ⟨h.os,h.tape,h.output,h.size,fun k hk hr=>h.keep k hk (fun he=>by unfold kz at hr;rw [if_pos he] at hr;rcases hr with hr | hr <;> cases hr),fun _ _=>rfl⟩
theorem owns_at {w w':World} {base:Nat} {e:TypeId} {size n:Nat} {v:Value} {xs:List Value} (h:w.ownsRow base e size v n xs) (hk:∀ q,q<w.heap.size→v.ownBlock=some q→w'.heap[q]? = w.heap[q]?):w'.ownsRow base e size v n xs:=by
 refine ⟨h.1,?_⟩
 rcases h.2 with h2 | ⟨b,cap,cur,hv,hb,hh,r⟩
 ·exact Or.inl h2
 ·exact Or.inr ⟨b,cap,cur,hv,hb,(hk b (blk_lt hh) (by rw [hv];rfl)).trans hh,r⟩
theorem BkL.at {T TS:TypeId} {sz base:Nat} {mkf:Nat→List Value} {w w':World} {v:Value} {ls:List Value} (h:BkL T TS sz base mkf w v ls) (hk:∀ q,q<w.heap.size→v.ownBlock=some q→w'.heap[q]? = w.heap[q]?) (hs:∀ i,i<ls.length → ∀ q,q<w.heap.size→(vat ls i).ownBlock=some q→w'.heap[q]? = w.heap[q]?):BkL T TS sz base mkf w' v ls :=
 ⟨owns_at h.own hk,fun i hi=>by
  obtain ⟨ad,n,cap,h1,h2,h3⟩:=h.ok i hi
  exact ⟨ad,n,cap,h1,h2,owns_at h3 (fun q hq e=>hs i hi q hq (by rw [h1];exact e))⟩⟩
structure BoX (BB:Nat) (B:Nat→Prop) (L:Nat) (w:World) (lad kad:Option Addr) (lc kc:Nat) (ll lk:List Value):Prop where
 lt:∀ k,B k→k<w.heap.size
 bb:B BB
 bx:w.heap[BB]? = some (.cells #[.slice none 0 0,.slice none 0 0,.slice none 0 0,.slice none 0 0,.slice lad ll.length lc,.slice kad lk.length kc] 89 (0,0))
 l:BkL 54 51 3 0 mkLj w (.slice lad ll.length lc) ll
 k:BkL 112 41 2 0 mkYj w (.slice kad lk.length kc) lk
 l4:ll.length % 4=0
 k4:lk.length % 4=0
 ln:ll.length≤L
 kn:lk.length≤L
 lo:∀ q,Value.ownBlock (.slice lad ll.length lc)=some q→B q
 ko:∀ q,Value.ownBlock (.slice kad lk.length kc)=some q→B q
 ls:∀ i,i<ll.length → ∀ q,(vat ll i).ownBlock=some q→B q
 ks:∀ i,i<lk.length → ∀ q,(vat lk i).ownBlock=some q→B q
def Bo (BB:Nat) (B:Nat→Prop) (L:Nat) (w:World):Prop:=∃ lad kad lc kc ll lk,BoX BB B L w lad kad lc kc ll lk
theorem Bo.lt {BB:Nat} {B:Nat→Prop} {L:Nat} {w:World} (h:Bo BB B L w):∀ k,B k→k<w.heap.size:=by
 obtain ⟨lad,kad,lc,kc,ll,lk,h⟩:=h;exact h.lt
theorem Bo.up {BB:Nat} {B:Nat→Prop} {L L':Nat} {w:World} (h:Bo BB B L w) (hL:L≤L'):Bo BB B L' w:=by
 obtain ⟨lad,kad,lc,kc,ll,lk,h⟩:=h
 exact ⟨lad,kad,lc,kc,ll,lk,h.lt,h.bb,h.bx,h.l,h.k,h.l4,h.k4,Nat.le_trans h.ln hL,Nat.le_trans h.kn hL,h.lo,h.ko,h.ls,h.ks⟩
theorem Bo.apart {BB:Nat} {B E:Nat→Prop} {L:Nat} {w w':World} (h:Bo BB B L w) (g:Kx E w w') (hB:∀ k,B k → ¬ E k):Bo BB B L w':=by
 obtain ⟨lad,kad,lc,kc,ll,lk,h⟩:=h
 exact ⟨lad,kad,lc,kc,ll,lk,fun k hk=>Nat.lt_of_lt_of_le (h.lt k hk) g.size,h.bb,(g.keep BB (h.lt _ h.bb) (hB _ h.bb)).trans h.bx,
  h.l.at (fun q hq e=>g.keep q hq (hB _ (h.lo q e))) (fun i hi q hq e=>g.keep q hq (hB _ (h.ls i hi q e))),
  h.k.at (fun q hq e=>g.keep q hq (hB _ (h.ko q e))) (fun i hi q hq e=>g.keep q hq (hB _ (h.ks i hi q e))),h.l4,h.k4,h.ln,h.kn,h.lo,h.ko,h.ls,h.ks⟩
theorem Bo.gr {BB:Nat} {B:Nat→Prop} {L:Nat} {w w':World} (h:Bo BB B L w) (g:Gr w w'):Bo BB B L w':=h.apart (E:=fun _=>False) (Kx.gr g) (fun _ _ e=>e)
theorem Bo.whole {BB:Nat} {B:Nat→Prop} {L:Nat} {w:World} (h:Bo BB B L w) (hL:L≤1099511627776):Calls Tryz.prog 33 #[.pointer (some ⟨BB,0,none⟩)] w fun e w'=>e = .returned (.bool true)∧Gr w w':=by
 obtain ⟨lad,kad,lc,kc,ll,lk,h⟩:=h
 exact whole_any BB 0 lad kad lc kc ll lk w (Nat.le_trans h.ln hL) (Nat.le_trans h.kn hL) h.bx h.l h.k
theorem mkLj_of {n:Nat} (h:n % 4=0):mkL (-1 - (n:Int))=mkLj (n / 4):=by
 unfold mkLj;rw [show ((n / 4:Nat):Int)*4=(n:Int) by omega]
theorem mkYj_of {n:Nat} (h:n % 4=0):mkY (-1 - (n:Int))=mkYj (n / 4):=by
 unfold mkYj;rw [show ((n / 4:Nat):Int)*4=(n:Int) by omega]
def Bn (B:Nat→Prop) (b0 b1:Nat):Nat→Prop:=fun k=>B k∨(b0≤k∧k<b1)
def KeptB (BB:Nat) (B:Nat→Prop) (L b0:Nat) (w:World) (e:Ending) (w':World):Prop:=e = .returned (.tuple #[])∧Bo BB (Bn B b0 w'.heap.size) (L+4) w'∧Kx (fun k=>B k∨b0≤k) w w'
theorem Bo.keepL {BB:Nat} {B:Nat→Prop} {L b0:Nat} {w:World} (h:Bo BB B L w) (hL:L≤1099511627776) (hb0:b0≤w.heap.size) (hB:∀ k,B k→k<b0) {ad:Option Addr} {n cap:Nat} {xs:List Value} (hn:n≤1099511627776) (hv:w.ownsRow b0 54 3 (.slice ad n cap) n xs) :
  Calls Tryz.prog 104 #[.pointer (some ⟨BB,0,none⟩),.slice ad n cap] w fun e w'=>KeptB BB B L b0 w e w':=by
 obtain ⟨lad,kad,lc,kc,ll,lk,h⟩:=h
 refine (keepLinks_any BB b0 _ _ _ _ _ ad lad n cap lc xs ll w hn (Nat.le_trans h.ln hL) h.bx hb0 h.l.own hv).mono ?_
 rintro e w' ⟨he,vi',us,hbx,hk,hz,hq⟩
 rw [mkLj_of h.l4] at hk
 have hown:∀ q,B q→Value.ownBlock (.slice ad n cap)≠some q:=fun q hb e=>by
  have h1:=own_low hv q e
  have h2:=hB q hb
  omega
 obtain ⟨u1,u2,u3,u4⟩:=h.l.kept rfl hk (by decide) (by decide) (fun i hi q e=>hown q (h.ls i hi q e)) hn h.l4
 obtain ⟨a,c,rfl,_⟩:=owns_shape u2.own
 refine ⟨he,⟨a,kad,c,kc,us,lk,fun k hk'=>?_,Or.inl h.bb,hbx,u2,?_,by have:=h.l4;omega,h.k4,by have:=h.ln;omega,by have:=h.kn;omega,fun q e=>?_,fun q e=>Or.inl (h.ko q e),fun i hi q e=>?_,fun i hi q e=>Or.inl (h.ks i hi q e)⟩,⟨hk.fr.be.os,hk.fr.be.tape,hk.fr.be.output,hk.fr.be.size,fun k hk' hn'=>hz k hk' (fun e=>hn' (Or.inr (own_low hv k e))) (fun e=>hn' (Or.inl (h.lo k e))) (fun e=>hn' (Or.inl (e ▸ h.bb)))⟩⟩
 ·rcases hk' with hk' | hk'
  ·exact Nat.lt_of_lt_of_le (h.lt k hk') hk.fr.be.size
  ·exact hk'.2
 ·refine ⟨hk.fr.owns h.k.own (by decide) (fun q e=>hown q (h.ko q e)),fun i hi=>?_⟩
  obtain ⟨ad2,n2,cap2,h1,h2,h3⟩:=h.k.ok i hi
  exact ⟨ad2,n2,cap2,h1,h2,hk.fr.owns h3 (by decide) (fun q e=>hown q (h.ks i hi q (by rw [h1];exact e)))⟩
 ·rcases hq q e with hq | hq
  ·exact Or.inl (h.lo q hq)
  ·refine Or.inr ⟨hq,?_⟩
   rcases u2.own.2 with ⟨hv,_⟩ | ⟨g,cap',cur,hv,_,hh,_⟩
   ·rw [hv] at e;simp [Value.ownBlock] at e
   ·rw [hv] at e
    have:g=q:=by simpa [Value.ownBlock] using e
    rw [← this];exact blk_lt hh
 ·by_cases hl:i<ll.length
  ·rw [u3 i hl] at e;exact Or.inl (h.ls i hl q e)
  ·refine Or.inr ⟨u4 i (by omega) hi q e,?_⟩
   obtain ⟨ad2,n2,cap2,h1,h2,h3⟩:=u2.ok i hi
   rw [h1] at e
   rcases h3.2 with ⟨hv,_⟩ | ⟨g,cap',cur,hv,_,hh,_⟩
   ·rw [hv] at e;simp [Value.ownBlock] at e
   ·rw [hv] at e
    have:g=q:=by simpa [Value.ownBlock] using e
    rw [← this];exact blk_lt hh
theorem Bo.keepY {BB:Nat} {B:Nat→Prop} {L b0:Nat} {w:World} (h:Bo BB B L w) (hL:L≤1099511627776) (hb0:b0≤w.heap.size) (hB:∀ k,B k→k<b0) {ad:Option Addr} {n cap:Nat} {xs:List Value} (hn:n≤1099511627776) (hv:w.ownsRow b0 112 2 (.slice ad n cap) n xs) :
  Calls Tryz.prog 106 #[.pointer (some ⟨BB,0,none⟩),.slice ad n cap] w fun e w'=>KeptB BB B L b0 w e w':=by
 obtain ⟨lad,kad,lc,kc,ll,lk,h⟩:=h
 refine (keepKeys_any BB b0 _ _ _ _ _ ad kad n cap kc xs lk w hn (Nat.le_trans h.kn hL) h.bx hb0 h.k.own hv).mono ?_
 rintro e w' ⟨he,vi',us,hbx,hk,hz,hq⟩
 rw [mkYj_of h.k4] at hk
 have hown:∀ q,B q→Value.ownBlock (.slice ad n cap)≠some q:=fun q hb e=>by
  have h1:=own_low hv q e
  have h2:=hB q hb
  omega
 obtain ⟨u1,u2,u3,u4⟩:=h.k.kept rfl hk (by decide) (by decide) (fun i hi q e=>hown q (h.ks i hi q e)) hn h.k4
 obtain ⟨a,c,rfl,_⟩:=owns_shape u2.own
 refine ⟨he,⟨lad,a,lc,c,ll,us,fun k hk'=>?_,Or.inl h.bb,hbx,?_,u2,h.l4,by have:=h.k4;omega,by have:=h.ln;omega,by have:=h.kn;omega,fun q e=>Or.inl (h.lo q e),fun q e=>?_,fun i hi q e=>Or.inl (h.ls i hi q e),fun i hi q e=>?_⟩,⟨hk.fr.be.os,hk.fr.be.tape,hk.fr.be.output,hk.fr.be.size,fun k hk' hn'=>hz k hk' (fun e=>hn' (Or.inr (own_low hv k e))) (fun e=>hn' (Or.inl (h.ko k e))) (fun e=>hn' (Or.inl (e ▸ h.bb)))⟩⟩
 ·rcases hk' with hk' | hk'
  ·exact Nat.lt_of_lt_of_le (h.lt k hk') hk.fr.be.size
  ·exact hk'.2
 ·refine ⟨hk.fr.owns h.l.own (by decide) (fun q e=>hown q (h.lo q e)),fun i hi=>?_⟩
  obtain ⟨ad2,n2,cap2,h1,h2,h3⟩:=h.l.ok i hi
  exact ⟨ad2,n2,cap2,h1,h2,hk.fr.owns h3 (by decide) (fun q e=>hown q (h.ls i hi q (by rw [h1];exact e)))⟩
 ·rcases hq q e with hq | hq
  ·exact Or.inl (h.ko q hq)
  ·refine Or.inr ⟨hq,?_⟩
   rcases u2.own.2 with ⟨hv,_⟩ | ⟨g,cap',cur,hv,_,hh,_⟩
   ·rw [hv] at e;simp [Value.ownBlock] at e
   ·rw [hv] at e
    have:g=q:=by simpa [Value.ownBlock] using e
    rw [← this];exact blk_lt hh
 ·by_cases hl:i<lk.length
  ·rw [u3 i hl] at e;exact Or.inl (h.ks i hl q e)
  ·refine Or.inr ⟨u4 i (by omega) hi q e,?_⟩
   obtain ⟨ad2,n2,cap2,h1,h2,h3⟩:=u2.ok i hi
   rw [h1] at e
   rcases h3.2 with ⟨hv,_⟩ | ⟨g,cap',cur,hv,_,hh,_⟩
   ·rw [hv] at e;simp [Value.ownBlock] at e
   ·rw [hv] at e
    have:g=q:=by simpa [Value.ownBlock] using e
    rw [← this];exact blk_lt hh
theorem FiK.blk {base:Nat} {w w':World} {ad:Option Addr} {f:List Wnt} {A:Nat→Prop} (h:FiK base w ad f) (ha:∃ b off,ad=some ⟨b,off,none⟩∧A b) (hs:w.heap.size≤w'.heap.size) (hk:∀ k,k<w.heap.size→A k→w'.heap[k]? = w.heap[k]?):FiK base w' ad f:=by
 obtain ⟨b,off,rfl,h1,h2,h3⟩:=h
 obtain ⟨b',off',e,ha⟩:=ha
 injection e with e;injection e with e1 e2
 subst e1 e2
 have hb:=hk b h1 ha
 refine ⟨b,off,rfl,Nat.lt_of_lt_of_le h1 hs,?_,h3.blk hb⟩
 rcases h2 with h2 | ⟨cs,fr,h2⟩
 ·exact Or.inl h2
 ·exact Or.inr ⟨cs,fr,hb.trans h2⟩
structure LeX (A:Nat→Prop) (base LB:Nat) (D:Nat→Prop) (M:Nat) (w:World) (vf vw:Value) (Fs:List FE):Prop where
 lt:∀ k,D k→k<w.heap.size
 lb:D LB
 f:LnF w base LB (.slice none 0 0) (.slice none 0 0) vf vw Fs
 n:Fs.length≤M
 len:∀ e∈Fs,e.f.length≤2513169434845
 fo:∀ q,vf.ownBlock=some q→D q
 wo:∀ q,vw.ownBlock=some q→D q
 os:∀ e∈Fs,D e.g
 ar:∀ e∈Fs,∃ b off,e.ad=some ⟨b,off,none⟩∧A b
 ba:∀ k,A k→k<base ∨ ∃ cs fr,w.heap[k]? = some (.cells cs 96 fr)
def Le (A:Nat→Prop) (LB:Nat) (D:Nat→Prop) (M:Nat) (w:World):Prop:=∃ base vf vw Fs,LeX A base LB D M w vf vw Fs
section
variable {A:Nat→Prop} {LB:Nat} {D:Nat→Prop} {M:Nat} {w:World}
theorem Le.lt (h:Le A LB D M w):∀ k,D k→k<w.heap.size:=by obtain ⟨_,_,_,_,h⟩:=h;exact h.lt
theorem Le.lb (h:Le A LB D M w):D LB:=by obtain ⟨_,_,_,_,h⟩:=h;exact h.lb
theorem Le.start (h:w.heap[LB]? = some (.cells lent0 152 (0,0))) (M:Nat) {base:Nat} (hb:base≤LB) (hA:∀ k,A k→k<base ∨ ∃ cs fr,w.heap[k]? = some (.cells cs 96 fr)):Le A LB (fun k=>k=LB) M w :=
 ⟨base,.slice none 0 0,.slice none 0 0,[],fun k hk=>hk ▸ blk_lt h,rfl,⟨hb,Nat.le_trans hb (Nat.le_of_lt (blk_lt h)),h,World.ownsRow_nil _ _ _ _,World.ownsRow_nil _ _ _ _,by simp,by simp,by simp⟩,Nat.zero_le _,by simp,by simp [Value.ownBlock],by simp [Value.ownBlock],by simp,by simp,hA⟩
theorem Le.apart {E:Nat→Prop} {w':World} (h:Le A LB D M w) (g:Kx E w w') (hD:∀ k,D k → ¬ E k) (hA:∀ k,A k → ¬ E k):Le A LB D M w':=by
 obtain ⟨base,vf,vw,Fs,h⟩:=h
 exact ⟨base,vf,vw,Fs,fun k hk=>Nat.lt_of_lt_of_le (h.lt k hk) g.size,h.lb,⟨h.f.lb,Nat.le_trans h.f.le g.size,(g.keep LB (h.lt _ h.lb) (hD _ h.lb)).trans h.f.box,owns_at h.f.ownf (fun q hq e=>g.keep q hq (hD _ (h.fo q e))),owns_at h.f.ownw (fun q hq e=>g.keep q hq (hD _ (h.wo q e))),
  fun e he=>⟨(h.f.outs e he).1,(g.keep e.g (blk_lt (h.f.outs e he).2) (hD _ (h.os e he))).trans (h.f.outs e he).2⟩,fun e he=>⟨(h.f.args e he).1,(h.f.args e he).2.1.blk (h.ar e he) g.size (fun k hk ha=>g.keep k hk (hA k ha)),(h.f.args e he).2.2⟩,h.f.nodup⟩,h.n,h.len,h.fo,h.wo,h.os,h.ar,fun k hk=>(h.ba k hk).imp id (fun ⟨c,f,e⟩=>⟨c,f,(g.keep k (blk_lt e) (hA k hk)).trans e⟩)⟩
theorem Le.gr {w':World} (h:Le A LB D M w) (g:Gr w w'):Le A LB D M w':=h.apart (E:=fun _=>False) (Kx.gr g) (fun _ _ e=>e) (fun _ _ e=>e)
theorem Le.up {M':Nat} (h:Le A LB D M w) (hM:M≤M'):Le A LB D M' w:=by
 obtain ⟨base,vf,vw,Fs,h⟩:=h
 exact ⟨base,vf,vw,Fs,h.lt,h.lb,h.f,Nat.le_trans h.n hM,h.len,h.fo,h.wo,h.os,h.ar,h.ba⟩
def CopyP (A:Nat→Prop) (LB:Nat) (D:Nat→Prop) (M:Nat) (f:List Wnt) (w:World) (e:Ending) (w':World):Prop :=
 ∃ g,e = .returned (.slice (some ⟨g,0,none⟩) f.length (f.length+8))∧w.heap.size≤g∧g<w'.heap.size∧WantsAt w' g 0 f∧Le A LB (Bn D w.heap.size w'.heap.size) (M+1) w'∧Kx D w w'
theorem Le.filter (h:Le A LB D M w) (hM:M≤1099511627776) (f:List Wnt) (ad:Option Addr) (cap:Nat) (hne:f≠[]) (hlen:f.length≤2513169434845) (hF:∃ b off,ad=some ⟨b,off,none⟩∧A b∧b<w.heap.size∧WantsAt w b off f) (hwf:∀ x∈f,Wnt.Wf x) :
  Calls Tryz.prog 60 #[.pointer (some ⟨LB,0,none⟩),.slice ad f.length cap] w fun e w'=>CopyP A LB D M f w e w':=by
 obtain ⟨base,vf,vw,Fs,h⟩:=h
 have ha:∃ b off,ad=some ⟨b,off,none⟩∧A b:=by
  obtain ⟨b,off,e,h1,_⟩:=hF
  exact ⟨b,off,e,h1⟩
 have hF:FiK base w ad f:=by
  obtain ⟨b,off,e,h1,h2,h3⟩:=hF
  exact ⟨b,off,e,h2,h.ba b h1,h3⟩
 refine (filter_fr f ad cap base LB _ _ vf vw Fs w hne hlen hF hwf (Nat.le_trans h.n hM) h.f).mono ?_
 rintro e w' ⟨g,vf',vw',he,hk,hg,hl,hz,h1,h2⟩
 have hin:(⟨g,f,ad,cap⟩:FE)∈Fs++[⟨g,f,ad,cap⟩]:=by simp
 have hc:=(hl.outs _ hin).2
 have hgl:=blk_lt hc
 have low:∀ {e:TypeId} {n:Nat} {v:Value} {xs:List Value},w'.ownsRow base e 1 v n xs → ∀ q,v.ownBlock=some q→q<w'.heap.size:=fun ho q e=>by
  rcases ho.2 with ⟨hv,_⟩ | ⟨b,cap',cur,hv,_,hh,_⟩
  ·rw [hv] at e;simp [Value.ownBlock] at e
  ·rw [hv] at e
   have:b=q:=by simpa [Value.ownBlock] using e
   rw [← this];exact blk_lt hh
 refine ⟨g,he,hg,hgl,fun i hi=>?_,⟨base,vf',vw',_,fun k hk'=>?_,Or.inl h.lb,hl,by simp;exact h.n,fun e he=>?_,fun q e=>(h1 q e).imp (h.fo q) (fun hq=>⟨hq,low hl.ownf q e⟩),fun q e=>(h2 q e).imp (h.wo q) (fun hq=>⟨hq,low hl.ownw q e⟩),fun e he=>?_,fun e he=>?_,fun k hA=>(h.ba k hA).imp id (fun ⟨c,f,e⟩=>⟨c,f,hk.kp _ _ _ _ e (by decide)⟩)⟩,⟨hk.be.os,hk.be.tape,hk.be.output,hk.be.size,fun k hk' hn=>hz k hk' (fun e=>hn (e ▸ h.lb)) (fun e=>hn (h.fo k e.symm)) (fun e=>hn (h.wo k e.symm))⟩⟩
 ·have hi':i<(outW f).length:=by rw [outW_len];omega
  obtain ⟨a1,a2,a3,a4,a5⟩:=wcells_at (outW f) i hi'
  rw [outW_in hi] at a1 a2 a3 a4 a5
  simp only [Nat.zero_add]
  refine ⟨?_,?_,?_,?_,?_⟩ <;> rw [cell_of_row _ _ _ _ _ _ hc] <;> rw [List.getElem?_toArray] <;> assumption
 ·rcases hk' with hk' | hk'
  ·exact Nat.lt_of_lt_of_le (h.lt k hk') hk.be.size
  ·exact hk'.2
 ·rcases List.mem_append.mp he with he | he
  ·exact h.len e he
  ·simp only [List.mem_singleton] at he;subst he;exact hlen
 ·rcases List.mem_append.mp he with he | he
  ·exact Or.inl (h.os e he)
  ·simp only [List.mem_singleton] at he;subst he;exact Or.inr ⟨hg,hgl⟩
 ·rcases List.mem_append.mp he with he | he
  ·exact h.ar e he
  ·simp only [List.mem_singleton] at he;subst he;exact ha
theorem Le.still (h:Le A LB D M w) (hM:M≤1099511627776):Calls Tryz.prog 32 #[.pointer (some ⟨LB,0,none⟩)] w fun e w'=>e = .returned (.bool true)∧(∀ M',Le A LB (fun k=>k=LB) M' w')∧Kx D w w':=by
 obtain ⟨base,vf,vw,Fs,h⟩:=h
 refine (still_fr base LB _ _ vf vw [] Fs w (Nat.zero_le _) (Nat.le_trans h.n hM) (by simp) h.len ⟨h.f.lb,h.f.le,h.f.box,World.ownsRow_nil _ _ _ _,World.ownsRow_nil _ _ _ _,by simp,by simp,by simp⟩ h.f).mono ?_
 rintro e w' ⟨he,hk,hb,hz⟩
 exact ⟨he,fun M'=>Le.start hb M' h.f.lb (fun k hA=>(h.ba k hA).imp id (fun ⟨c,f,e⟩=>⟨c,f,hk.kp _ _ _ _ e (by decide)⟩)),⟨hk.be.os,hk.be.tape,hk.be.output,hk.be.size,fun k hk' hn=>hz k hk' (fun e=>hn (e ▸ h.lb)) (by simp) (fun e he' ee=>hn (ee ▸ h.os e he'))⟩⟩
end
end Go.Proofs.YtecnfgikbmcgoaaGreat
