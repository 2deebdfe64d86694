import Derived.Test.YtecnfgikbmcgoaaGreatG29
namespace Go.Proofs.YtecnfgikbmcgoaaGreat
open Go.RowKit
def mkL (M:Int):List Value:=[.int .i64 0,.int .i64 0,.int .i64 M]
theorem mkL_len (M:Int):(mkL M).length=3:=rfl
theorem mkL_pos (M:Int):0<(mkL M).length:=by rw [mkL_len];decide
theorem mkL_one (M:Int):∀ u∈mkL M,u.oneCell'=true:=by simp [mkL,Value.oneCell']
theorem repL_take (xs:List Value) (q:Nat) (M:Int) (h:q*3+3≤xs.length) (ht:xs.take (q*3)=rep q (mkL M)):(set3 xs (q*3) (.int .i64 0) (.int .i64 0) (.int .i64 M)).take ((q+1)*3)=rep (q+1) (mkL M):=by
 rw [show (q+1)*3=q*3+3 by omega,take3 _ _ _ _ _ h,ht,rep_add,rep_one];rfl
def RL (BB base:Nat) (own:Option Nat) (M:Int) (n:Nat) (v vi:Value) (ls:List Value) (j:Nat) (x:Value) (w:World):Prop :=
 match j with
 | 0=>x = .pointer (some ⟨BB,0,none⟩)
 | 1=>x = .pointer (some ⟨BB,0,none⟩)
 | 2=>x = .pointer (some ⟨BB,0,none⟩)
 | 3=>x = .pointer (some ⟨BB,4,none⟩)
 | 4=>x=vi
 | 5=>x=v
 | 6=>x=v
 | 7=>x = .agg #[.int .i64 0,.int .i64 0,.int .i64 M]
 | 8=>NewB own vi 54 1 #[.int .i64 0,.int .i64 0,.int .i64 M] x w
 | 9=>Mk 54 base (mkL M) (n+1) x w
 | 10=>x=v
 | 11=>x = .agg #[.int .i64 0,.int .i64 0,.int .i64 M]
 | 12=>x = .agg #[.int .i64 0,.int .i64 0,.int .i64 M]
 | 13=>NewB own vi 54 2 #[.int .i64 0,.int .i64 0,.int .i64 M,.int .i64 0,.int .i64 0,.int .i64 M] x w
 | 14=>Mk 54 base (mkL M) (n+2) x w
 | 15=>x=v
 | 16=>x = .agg #[.int .i64 0,.int .i64 0,.int .i64 M]
 | 17=>x = .agg #[.int .i64 0,.int .i64 0,.int .i64 M]
 | 18=>x = .agg #[.int .i64 0,.int .i64 0,.int .i64 M]
 | 19=>NewB own vi 54 3 #[.int .i64 0,.int .i64 0,.int .i64 M,.int .i64 0,.int .i64 0,.int .i64 M,.int .i64 0,.int .i64 0,.int .i64 M] x w
 | 20=>Mk 54 base (mkL M) (n+3) x w
 | 21=>Four 54 51 base (mkL M) n v own vi x w
 | 22=>Done 54 51 base (mkL M) n v vi ls x w
 | 23=>x = .pointer (some ⟨BB,0,none⟩)
 | 24=>x = .pointer (some ⟨BB,4,none⟩)
 | _=>True
theorem RL.st {BB base:Nat} {own:Option Nat} {M:Int} {n:Nat} {v vi:Value} {ls:List Value} {w:World} (i j:Nat) (x:Value) (wa wb:World) (hij:i≠j) (h:RL BB base own M n v vi ls j x wa) (g:Gk 54 51 own base w (mkL M) n v vi ls (i≠22) wa wb):RL BB base own M n v vi ls j x wb:=by
 match j,h,hij with
 | 0,h,_=>exact h
 | 1,h,_=>exact h
 | 2,h,_=>exact h
 | 3,h,_=>exact h
 | 4,h,_=>exact h
 | 5,h,_=>exact h
 | 6,h,_=>exact h
 | 7,h,_=>exact h
 | 8,h,_=>exact NewB.gd h g
 | 9,h,_=>exact Mk.gd h g
 | 10,h,_=>exact h
 | 11,h,_=>exact h
 | 12,h,_=>exact h
 | 13,h,_=>exact NewB.gd h g
 | 14,h,_=>exact Mk.gd h g
 | 15,h,_=>exact h
 | 16,h,_=>exact h
 | 17,h,_=>exact h
 | 18,h,_=>exact h
 | 19,h,_=>exact NewB.gd h g
 | 20,h,_=>exact Mk.gd h g
 | 21,h,_=>exact Four.gd h g
 | 22,h,hij=>exact Done.gd h g hij
 | 23,h,_=>exact h
 | 24,h,_=>exact h
 | _+25,_,_=>trivial
structure EKL (BB MB:Nat) (v:Value) (a:Act):Prop where
 sz:48≤a.tmps.size
 df:a.defers=[]
 t0:a.eval (.tmp 0) = .pointer (some ⟨BB,0,none⟩)
 t1:a.eval (.tmp 1)=v
 t4:a.eval (.tmp 4) = .pointer (some ⟨MB,0,none⟩)
theorem EKL.put {BB MB:Nat} {v:Value} (a:Act) (i:Nat) (x:Value) (hi:i<25) (h:EKL BB MB v a):EKL BB MB v (a.put (some (23+i)) x):=by
 refine ⟨by simpa [Act.put] using h.sz,h.df,?_,?_,?_⟩ <;> rw [eval_put_other (by omega)]
 ·exact h.t0
 ·exact h.t1
 ·exact h.t4
set_option maxRecDepth 100000 in
set_option maxHeartbeats 4000000 in
theorem keepLinks_any (BB base:Nat) (a0 a1 a2 a3 a5:Value) (ad lad:Option Addr) (n cap lc:Nat) (xs ls:List Value) (w:World) (hn:n≤1099511627776) (hln:ls.length≤1099511627776)
  (hbx:w.heap[BB]? = some (.cells #[a0,a1,a2,a3,.slice lad ls.length lc,a5] 89 (0,0))) (hle:base≤w.heap.size)
  (hvi:w.ownsRow 0 51 1 (.slice lad ls.length lc) ls.length ls) (hv:w.ownsRow base 54 3 (.slice ad n cap) n xs) :
  Calls Tryz.prog 104 #[.pointer (some ⟨BB,0,none⟩),.slice ad n cap] w fun e w'=>e = .returned (.tuple #[]) ∧ ∃ vi' us,w'.heap[BB]? = some (.cells #[a0,a1,a2,a3,vi',a5] 89 (0,0)) ∧
   Kept 54 51 (Value.ownBlock (.slice ad n cap)) base w w' (mkL (-1 - ls.length)) n (.slice ad n cap) vi' ls us∧(∀ z,z<w.heap.size→Value.ownBlock (.slice ad n cap)≠some z→Value.ownBlock (.slice lad ls.length lc)≠some z→z≠BB→w'.heap[z]? = w.heap[z]?) ∧ ∀ q,vi'.ownBlock=some q→Value.ownBlock (.slice lad ls.length lc)=some q∨base≤q:=by
 obtain ⟨i0,hi',hz0,hz1,hz2⟩:=info_parts Tryz.infoLink
 obtain ⟨i1,hi1,hz01,hz11,hz21⟩:=info_parts Tryz.infoSlLk
 have c0:w.cell? ⟨BB,4,none⟩=some (.slice lad ls.length lc):=by rw [cell_of_row _ _ _ _ _ _ hbx];rfl
 have hw1:wrap64 (-1 - (ls.length:Int)) = -1 - (ls.length:Int):=by unfold wrap64;go_num
 have hnb:Value.ownBlock (.slice ad n cap)≠some BB:=own_ne hv hbx (by decide)
 have HNB:=Hid.mk' hnb
 have HBX:=Hid.mk' hbx
 have HLE:=Hid.mk' hle
 have HVI:=Hid.mk' hvi
 have HV:=Hid.mk' hv
 have HNM:=Hid.mk' (own_lt' hv)
 have HNI:=Hid.mk' (own_lt' hvi)
 have hap:=Hid.mk' (own_apart hv hvi (by decide))
 obtain ⟨ad',cap',he,had⟩:=owns_shape hv
 obtain ⟨rfl,rfl⟩:ad'=ad∧cap'=cap:=by injection he with h1 _ h2;exact ⟨h1.symm,h2.symm⟩
 clear hvi hv hbx hnb hle he
 go_enter Tryz.func104,Tryz.ntmps104
 go_wp2_with fail
 go_loopw [5] (fun i wr=>∃ (q:Nat) (ys:List Value),q≤n∧i = .int .i64 q∧Hid (ys.take (q*3)=rep q (mkL (-1 - (ls.length:Int))))∧Hid (wr.ownsRow base 54 3 (.slice ad' n cap') n ys)∧Hid (Kv [] (Value.ownBlock (.slice ad' n cap')) 0 w wr ∧ ∀ z,z<w.heap.size→Value.ownBlock (.slice ad' n cap')≠some z→wr.heap[z]? = w.heap[z]?)∧Hid (wr.heap[w.heap.size]? = some (.cells #[.int .i64 0,.int .i64 0,.int .i64 (-1 - (ls.length:Int))] 54 (0,0)))) (fun i _=>n - (intOf i).toNat)
 case atStart=>exact ⟨0,xs,Nat.zero_le _,rfl,rfl,ownsGr HV.out ((Gr.refl w).alloc _),⟨Kv.gr ((Gr.refl w).alloc _) (Nat.zero_le _),fun z hz _=>heap_alloc_old _ _ hz⟩,heap_alloc_new w _⟩
 case round =>
  obtain ⟨q,ys,hq,rfl,HY,HO,HK,HM⟩:=hrel
  clear c0
  have m0:wr.cell? ⟨w.heap.size,0,none⟩=some (.int .i64 0):=by rw [cell_of_row _ _ _ _ _ _ HM.out];rfl
  have m1:wr.cell? ⟨w.heap.size,1,none⟩=some (.int .i64 0):=by rw [cell_of_row _ _ _ _ _ _ HM.out];rfl
  have m2:wr.cell? ⟨w.heap.size,2,none⟩=some (.int .i64 (-1 - (ls.length:Int))):=by rw [cell_of_row _ _ _ _ _ _ HM.out];rfl
  by_cases hlt:q<n
  ·obtain ⟨g,rfl⟩:=had (by omega)
   have hgm:g≠w.heap.size:=fun he=>HNM.out (by rw [he];rfl)
   have hgm':w.heap.size≠g:=fun he=>hgm he.symm
   have hyl:ys.length=n*3:=HO.out.1
   obtain ⟨r0,rc0⟩:=row_some HO.out (q*3) (by omega)
   have rf0:=World.ownsRow.frozenAt HO.out (q*3)
   obtain ⟨r1,rc1⟩:=row_some HO.out (q*3+1) (by omega)
   have rf1:=World.ownsRow.frozenAt HO.out (q*3+1)
   obtain ⟨r2,rc2⟩:=row_some HO.out (q*3+1+1) (by omega)
   have rf2:=World.ownsRow.frozenAt HO.out (q*3+1+1)
   have O1:=Hid.mk' (owns_set3 HO.out (q*3) (.int .i64 0) (.int .i64 0) (.int .i64 (-1 - (ls.length:Int))))
   have hlow:=Nat.zero_le g
   have K1:=Hid.mk' (And.intro (Kv.own (j:=q*3+1+1) (Kv.own (j:=q*3+1) (Kv.own (j:=q*3) (HK.out.1) hlow (.int .i64 0)) hlow (.int .i64 0)) hlow (.int .i64 (-1 - (ls.length:Int)))) (fun (z:Nat) (hz:z<w.heap.size) (hne:Value.ownBlock (.slice (some ⟨g,0,none⟩) n cap')≠some z)=>(Below.heap_setCell _ ⟨g,q*3+1+1,none⟩ (.int .i64 (-1 - (ls.length:Int))) z (fun (he:z=g)=>hne (by rw [he];rfl))).trans ((Below.heap_setCell _ ⟨g,q*3+1,none⟩ (.int .i64 0) z (fun (he:z=g)=>hne (by rw [he];rfl))).trans ((Below.heap_setCell _ ⟨g,q*3,none⟩ (.int .i64 0) z (fun (he:z=g)=>hne (by rw [he];rfl))).trans (HK.out.2 z hz hne)))))
   have Y1:=Hid.mk' (repL_take ys q _ (by omega) HY.out)
   have M1:=Hid.mk' (blk_set (blk_set (blk_set (HM.out) (p:=⟨g,q*3,none⟩) hgm' (.int .i64 0)) (p:=⟨g,q*3+1,none⟩) hgm' (.int .i64 0)) (p:=⟨g,q*3+1+1,none⟩) hgm' (.int .i64 (-1 - (ls.length:Int))))
   clear HY HO HK HM hlow
   go_wp2_with fail
   go_roundw
   case rel=>exact ⟨q+1,_,by omega,by go_num,Y1,O1,K1,M1⟩
   case measure=>simp [intOf];omega
  ·have hqn:q=n:=by omega
   subst hqn
   have hys:ys=rep q (mkL (-1 - (ls.length:Int))):=by rw [← HY.out,List.take_of_length_le (by rw [HO.out.1];omega)]
   have K0:Hid (KI 54 51 (Value.ownBlock (.slice ad' q cap')) base w wr (mkL (-1 - (ls.length:Int))) q (.slice ad' q cap') (.slice lad ls.length lc) ls []) :=
    ⟨HK.out.1.wide (by simp),Nat.le_trans HLE.out HK.out.1.size,fun z hz a _=>HK.out.2 z hz a,by rw [← hys];exact HO.out,HK.out.1.owns HVI.out (by simp) hap.out,by simp⟩
   clear HY HO HK hys ys m0 m1 m2
   go_wp2_with fail
   refine region_S (c:=23) rfl 25 (by rfl) (RL BB base (Value.ownBlock (.slice ad' q cap')) (-1 - (ls.length:Int)) q (.slice ad' q cap') (.slice lad ls.length lc) ls) (EKL BB w.heap.size (.slice ad' q cap'))
    (fun wr=>KI 54 51 (Value.ownBlock (.slice ad' q cap')) base w wr (mkL (-1 - (ls.length:Int))) q (.slice ad' q cap') (.slice lad ls.length lc) ls []∧wr.heap[w.heap.size]? = some (.cells #[.int .i64 0,.int .i64 0,.int .i64 (-1 - (ls.length:Int))] 54 (0,0)))
    (fun i wa wb=>Gk 54 51 (Value.ownBlock (.slice ad' q cap')) base w (mkL (-1 - (ls.length:Int))) q (.slice ad' q cap') (.slice lad ls.length lc) ls (i≠22) wa wb)
    (fun a i x hi h=>EKL.put a i x hi h) (fun a h=>by have:=h.sz;omega) (fun i wa wb h g=>⟨g.ki h.1,g.bl _ _ _ _ h.2 HNM.out HNI.out⟩) (fun i j x wa wb hij h g=>RL.st i j x wa wb hij h g) ?front ?last ?e0 ⟨K0.out.drew,HM.out⟩
   case e0=>exact ⟨by simp,rfl,rfl,rfl,rfl⟩
   case front =>
    intro i o a wr ho hi hE hWW hd K hK
    obtain ⟨hW,hMB⟩:=hWW
    match i,ho,hi,hd,hK with
    | 0,ho,_,hd,hK =>
     obtain rfl:=Option.some.inj ho
     have e0:=(evn a 0).symm.trans hE.t0
     unfold Oper.wp
     go_simp
     exact hK _ _ (Gk.gr (Gr.refl _)) rfl
    | 1,ho,_,hd,hK =>
     obtain rfl:=Option.some.inj ho
     have e0:=(evn a 0).symm.trans hE.t0
     unfold Oper.wp
     go_simp
     exact hK _ _ (Gk.gr (Gr.refl _)) rfl
    | 5,ho,_,hd,hK =>
     obtain rfl:=Option.some.inj ho
     have e0:=(evn a 1).symm.trans hE.t1
     unfold Oper.wp
     go_simp
     exact hK _ _ (Gk.gr (Gr.refl _)) rfl
    | 6,ho,_,hd,hK =>
     obtain rfl:=Option.some.inj ho
     have e0:=(evn a 1).symm.trans hE.t1
     unfold Oper.wp
     go_simp
     exact hK _ _ (Gk.gr (Gr.refl _)) rfl
    | 10,ho,_,hd,hK =>
     obtain rfl:=Option.some.inj ho
     have e0:=(evn a 1).symm.trans hE.t1
     unfold Oper.wp
     go_simp
     exact hK _ _ (Gk.gr (Gr.refl _)) rfl
    | 15,ho,_,hd,hK =>
     obtain rfl:=Option.some.inj ho
     have e0:=(evn a 1).symm.trans hE.t1
     unfold Oper.wp
     go_simp
     exact hK _ _ (Gk.gr (Gr.refl _)) rfl
    | 7,ho,_,hd,hK =>
     obtain rfl:=Option.some.inj ho
     have e0:=(evn a 4).symm.trans hE.t4
     have n0:wr.cell? ⟨w.heap.size,0,none⟩=some (.int .i64 0):=by rw [cell_of_row _ _ _ _ _ _ hMB];rfl
     have n1:wr.cell? ⟨w.heap.size,1,none⟩=some (.int .i64 0):=by rw [cell_of_row _ _ _ _ _ _ hMB];rfl
     have n2:wr.cell? ⟨w.heap.size,2,none⟩=some (.int .i64 (-1 - (ls.length:Int))):=by rw [cell_of_row _ _ _ _ _ _ hMB];rfl
     unfold Oper.wp
     go_simp
     exact hK _ _ (Gk.gr (Gr.refl _)) rfl
    | 11,ho,_,hd,hK =>
     obtain rfl:=Option.some.inj ho
     have e0:=(evn a 4).symm.trans hE.t4
     have n0:wr.cell? ⟨w.heap.size,0,none⟩=some (.int .i64 0):=by rw [cell_of_row _ _ _ _ _ _ hMB];rfl
     have n1:wr.cell? ⟨w.heap.size,1,none⟩=some (.int .i64 0):=by rw [cell_of_row _ _ _ _ _ _ hMB];rfl
     have n2:wr.cell? ⟨w.heap.size,2,none⟩=some (.int .i64 (-1 - (ls.length:Int))):=by rw [cell_of_row _ _ _ _ _ _ hMB];rfl
     unfold Oper.wp
     go_simp
     exact hK _ _ (Gk.gr (Gr.refl _)) rfl
    | 12,ho,_,hd,hK =>
     obtain rfl:=Option.some.inj ho
     have e0:=(evn a 4).symm.trans hE.t4
     have n0:wr.cell? ⟨w.heap.size,0,none⟩=some (.int .i64 0):=by rw [cell_of_row _ _ _ _ _ _ hMB];rfl
     have n1:wr.cell? ⟨w.heap.size,1,none⟩=some (.int .i64 0):=by rw [cell_of_row _ _ _ _ _ _ hMB];rfl
     have n2:wr.cell? ⟨w.heap.size,2,none⟩=some (.int .i64 (-1 - (ls.length:Int))):=by rw [cell_of_row _ _ _ _ _ _ hMB];rfl
     unfold Oper.wp
     go_simp
     exact hK _ _ (Gk.gr (Gr.refl _)) rfl
    | 16,ho,_,hd,hK =>
     obtain rfl:=Option.some.inj ho
     have e0:=(evn a 4).symm.trans hE.t4
     have n0:wr.cell? ⟨w.heap.size,0,none⟩=some (.int .i64 0):=by rw [cell_of_row _ _ _ _ _ _ hMB];rfl
     have n1:wr.cell? ⟨w.heap.size,1,none⟩=some (.int .i64 0):=by rw [cell_of_row _ _ _ _ _ _ hMB];rfl
     have n2:wr.cell? ⟨w.heap.size,2,none⟩=some (.int .i64 (-1 - (ls.length:Int))):=by rw [cell_of_row _ _ _ _ _ _ hMB];rfl
     unfold Oper.wp
     go_simp
     exact hK _ _ (Gk.gr (Gr.refl _)) rfl
    | 17,ho,_,hd,hK =>
     obtain rfl:=Option.some.inj ho
     have e0:=(evn a 4).symm.trans hE.t4
     have n0:wr.cell? ⟨w.heap.size,0,none⟩=some (.int .i64 0):=by rw [cell_of_row _ _ _ _ _ _ hMB];rfl
     have n1:wr.cell? ⟨w.heap.size,1,none⟩=some (.int .i64 0):=by rw [cell_of_row _ _ _ _ _ _ hMB];rfl
     have n2:wr.cell? ⟨w.heap.size,2,none⟩=some (.int .i64 (-1 - (ls.length:Int))):=by rw [cell_of_row _ _ _ _ _ _ hMB];rfl
     unfold Oper.wp
     go_simp
     exact hK _ _ (Gk.gr (Gr.refl _)) rfl
    | 18,ho,_,hd,hK =>
     obtain rfl:=Option.some.inj ho
     have e0:=(evn a 4).symm.trans hE.t4
     have n0:wr.cell? ⟨w.heap.size,0,none⟩=some (.int .i64 0):=by rw [cell_of_row _ _ _ _ _ _ hMB];rfl
     have n1:wr.cell? ⟨w.heap.size,1,none⟩=some (.int .i64 0):=by rw [cell_of_row _ _ _ _ _ _ hMB];rfl
     have n2:wr.cell? ⟨w.heap.size,2,none⟩=some (.int .i64 (-1 - (ls.length:Int))):=by rw [cell_of_row _ _ _ _ _ _ hMB];rfl
     unfold Oper.wp
     go_simp
     exact hK _ _ (Gk.gr (Gr.refl _)) rfl
    | 2,ho,_,hd,hK =>
     obtain rfl:=Option.some.inj ho
     have e0:a.eval (.tmp 24) = .pointer (some ⟨BB,0,none⟩):=hd ⟨1,.data⟩ (by simp) rfl
     rw [evn] at e0
     unfold Oper.wp
     go_simp
     exact hK _ _ (Gk.gr (Gr.refl _)) rfl
    | 3,ho,_,hd,hK =>
     obtain rfl:=Option.some.inj ho
     have e0:a.eval (.tmp 25) = .pointer (some ⟨BB,0,none⟩):=hd ⟨2,.data⟩ (by simp) rfl
     rw [evn] at e0
     unfold Oper.wp
     go_simp
     exact hK _ _ (Gk.gr (Gr.refl _)) rfl
    | 23,ho,_,hd,hK =>
     obtain rfl:=Option.some.inj ho
     have e0:a.eval (.tmp 23) = .pointer (some ⟨BB,0,none⟩):=hd ⟨0,.data⟩ (by simp) rfl
     rw [evn] at e0
     unfold Oper.wp
     go_simp
     exact hK _ _ (Gk.gr (Gr.refl _)) rfl
    | 24,ho,_,hd,hK =>
     obtain rfl:=Option.some.inj ho
     have e0:a.eval (.tmp 46) = .pointer (some ⟨BB,0,none⟩):=hd ⟨23,.data⟩ (by simp) rfl
     rw [evn] at e0
     unfold Oper.wp
     go_simp
     exact hK _ _ (Gk.gr (Gr.refl _)) rfl
    | 4,ho,_,hd,hK =>
     obtain rfl:=Option.some.inj ho
     have e0:a.eval (.tmp 26) = .pointer (some ⟨BB,4,none⟩):=hd ⟨3,.data⟩ (by simp) rfl
     rw [evn] at e0
     have cx:wr.cell? ⟨BB,4,none⟩=some (.slice lad ls.length lc):=by rw [cell_of_row _ _ _ _ _ _ (KI.box hW HBX.out (by decide) HNB.out)];rfl
     unfold Oper.wp
     go_simp
     exact hK _ _ (Gk.gr (Gr.refl _)) rfl
    | 8,ho,_,hd,hK =>
     obtain rfl:=Option.some.inj ho
     have e7:a.eval (.tmp 30) = .agg #[.int .i64 0,.int .i64 0,.int .i64 (-1 - (ls.length:Int))]:=hd ⟨7,.data⟩ (by simp) rfl
     rw [evn] at e7
     unfold Oper.wp
     go_simp
     exact hK _ _ (Gk.gr ((Gr.refl _).alloc _)) (NewB.alloc hW rfl)
    | 13,ho,_,hd,hK =>
     obtain rfl:=Option.some.inj ho
     have e11:a.eval (.tmp 34) = .agg #[.int .i64 0,.int .i64 0,.int .i64 (-1 - (ls.length:Int))]:=hd ⟨11,.data⟩ (by simp) rfl
     have e12:a.eval (.tmp 35) = .agg #[.int .i64 0,.int .i64 0,.int .i64 (-1 - (ls.length:Int))]:=hd ⟨12,.data⟩ (by simp) rfl
     rw [evn] at e11
     rw [evn] at e12
     unfold Oper.wp
     go_simp
     exact hK _ _ (Gk.gr ((Gr.refl _).alloc _)) (NewB.alloc hW rfl)
    | 19,ho,_,hd,hK =>
     obtain rfl:=Option.some.inj ho
     have e16:a.eval (.tmp 39) = .agg #[.int .i64 0,.int .i64 0,.int .i64 (-1 - (ls.length:Int))]:=hd ⟨16,.data⟩ (by simp) rfl
     have e17:a.eval (.tmp 40) = .agg #[.int .i64 0,.int .i64 0,.int .i64 (-1 - (ls.length:Int))]:=hd ⟨17,.data⟩ (by simp) rfl
     have e18:a.eval (.tmp 41) = .agg #[.int .i64 0,.int .i64 0,.int .i64 (-1 - (ls.length:Int))]:=hd ⟨18,.data⟩ (by simp) rfl
     rw [evn] at e16
     rw [evn] at e17
     rw [evn] at e18
     unfold Oper.wp
     go_simp
     exact hK _ _ (Gk.gr ((Gr.refl _).alloc _)) (NewB.alloc hW rfl)
    | 9,ho,_,hd,hK =>
     obtain rfl:=Option.some.inj ho
     have e0:a.eval (.tmp 29) = .slice ad' q cap':=hd ⟨6,.data⟩ (by simp) rfl
     obtain ⟨B,e1,_,_,hb⟩:NewB _ _ _ _ _ (a.eval (.tmp 31)) wr:=hd ⟨8,.data⟩ (by simp) rfl
     refine wp_append_rep _ (.tmp 29) (.tmp 31) 51 rfl base 54 i0 _ 24 (mkL (-1 - (ls.length:Int))) Tryz.underlying51 hi' hz0 hz1 hz2 rfl (mkL_pos _) (.slice ad' q cap') q e0 hW.v0 ⟨B,0,none⟩ 1 1 e1 (World.news_of_block hb) (mkL_one _) (by unfold maxLen;omega) (by omega) hW.le ?_
     intro v' x' o' g' r'
     exact hK _ _ (Gk.app (by decide) rfl hW.v0 o' g' r') ⟨owns_slice o',o'⟩
    | 14,ho,_,hd,hK =>
     obtain rfl:=Option.some.inj ho
     have e0:a.eval (.tmp 33) = .slice ad' q cap':=hd ⟨10,.data⟩ (by simp) rfl
     obtain ⟨B,e1,_,_,hb⟩:NewB _ _ _ _ _ (a.eval (.tmp 36)) wr:=hd ⟨13,.data⟩ (by simp) rfl
     refine wp_append_rep _ (.tmp 33) (.tmp 36) 51 rfl base 54 i0 _ 24 (mkL (-1 - (ls.length:Int))) Tryz.underlying51 hi' hz0 hz1 hz2 rfl (mkL_pos _) (.slice ad' q cap') q e0 hW.v0 ⟨B,0,none⟩ 2 2 e1 (World.news_of_block hb) (mkL_one _) (by unfold maxLen;omega) (by omega) hW.le ?_
     intro v' x' o' g' r'
     exact hK _ _ (Gk.app (by decide) rfl hW.v0 o' g' r') ⟨owns_slice o',o'⟩
    | 20,ho,_,hd,hK =>
     obtain rfl:=Option.some.inj ho
     have e0:a.eval (.tmp 38) = .slice ad' q cap':=hd ⟨15,.data⟩ (by simp) rfl
     obtain ⟨B,e1,_,_,hb⟩:NewB _ _ _ _ _ (a.eval (.tmp 42)) wr:=hd ⟨19,.data⟩ (by simp) rfl
     refine wp_append_rep _ (.tmp 38) (.tmp 42) 51 rfl base 54 i0 _ 24 (mkL (-1 - (ls.length:Int))) Tryz.underlying51 hi' hz0 hz1 hz2 rfl (mkL_pos _) (.slice ad' q cap') q e0 hW.v0 ⟨B,0,none⟩ 3 3 e1 (World.news_of_block hb) (mkL_one _) (by unfold maxLen;omega) (by omega) hW.le ?_
     intro v' x' o' g' r'
     exact hK _ _ (Gk.app (by decide) rfl hW.v0 o' g' r') ⟨owns_slice o',o'⟩
    | 21,ho,_,hd,hK =>
     obtain rfl:=Option.some.inj ho
     have e0:a.eval (.tmp 28) = .slice ad' q cap':=hd ⟨5,.data⟩ (by simp) rfl
     have m1:Mk _ _ _ _ (a.eval (.tmp 32)) wr:=hd ⟨9,.data⟩ (by simp) rfl
     have m2:Mk _ _ _ _ (a.eval (.tmp 37)) wr:=hd ⟨14,.data⟩ (by simp) rfl
     have m3:Mk _ _ _ _ (a.eval (.tmp 43)) wr:=hd ⟨20,.data⟩ (by simp) rfl
     have g4:=Gk.gr (T:=54) (TS:=51) (own:=Value.ownBlock (.slice ad' q cap')) (base:=base) (w:=w) (mk:=mkL (-1 - (ls.length:Int))) (n:=q) (v:=.slice ad' q cap') (vi:=.slice lad ls.length lc) (ls:=ls) (s:=21≠22) ((Gr.refl wr).alloc (.cells #[.slice ad' q cap',a.eval (.tmp 32),a.eval (.tmp 37),a.eval (.tmp 43)] 51))
     have F:Four _ _ _ _ _ _ _ _ _ _:=⟨_,_,_,NewB.alloc (T':=51) (k:=4) (cs:=#[.slice ad' q cap',a.eval (.tmp 32),a.eval (.tmp 37),a.eval (.tmp 43)]) hW rfl,m1.gd g4,m2.gd g4,m3.gd g4⟩
     obtain ⟨b1,k1,q1,e1⟩:=m1.1
     obtain ⟨b2,k2,q2,e2⟩:=m2.1
     obtain ⟨b3,k3,q3,e3⟩:=m3.1
     rw [e1,e2,e3] at g4 F
     clear m1 m2 m3
     rw [evn] at e0 e1 e2 e3
     unfold Oper.wp
     go_simp
     exact hK _ _ g4 F
    | 22,ho,_,hd,hK =>
     obtain rfl:=Option.some.inj ho
     have e0:a.eval (.tmp 27) = .slice lad ls.length lc:=hd ⟨4,.data⟩ (by simp) rfl
     obtain ⟨v1,v2,v3,⟨B,e1,_,_,hb⟩,m1,m2,m3⟩:Four _ _ _ _ _ _ _ _ (a.eval (.tmp 44)) wr:=hd ⟨21,.data⟩ (by simp) rfl
     obtain ⟨b1,k1,q1,rfl⟩:=m1.1
     obtain ⟨b2,k2,q2,rfl⟩:=m2.1
     obtain ⟨b3,k3,q3,rfl⟩:=m3.1
     refine wp_append_keep2 _ (.tmp 27) (.tmp 44) 86 rfl 0 51 i1 _ 1 24 Tryz.underlying86 hi1 hz01 hz11 hz21 rfl Nat.zero_lt_one (.slice lad ls.length lc) ls.length ls e0 hW.vi ⟨B,0,none⟩ 4 4 [.slice ad' q cap',.slice b1 k1 q1,.slice b2 k2 q2,.slice b3 k3 q3] e1 rfl (World.news_of_block hb) (by simp [Value.oneCell']) (by unfold maxLen;omega) (by omega) (Nat.zero_le _) (by decide) ?_
     intro v' x' o' g' r' nb'
     have g4:=Gk.app4 (base:=base) (T:=54) (own:=Value.ownBlock (.slice ad' q cap')) (w:=w) (mk:=mkL (-1 - (ls.length:Int))) (n:=q) (v:=.slice ad' q cap') (by decide) hW.vi r' g'
     exact hK _ _ ⟨g4.mks,g4.bl,g4.ki,fun h=>absurd rfl h⟩ ⟨⟨owns_slice o',fun q hq=>nb'.imp (fun e=>e.symm.trans hq) (fun e=>by rw [e] at hq;injection hq with hq;rw [← hq];exact hW.le)⟩,_,_,_,o',m1.gd g4,m2.gd g4,m3.gd g4⟩
    | k+25,_,hi,_,_=>exact absurd hi (by omega)
   case last =>
    intro o a wr ho hE hWW hd K hK
    obtain ⟨hW,_⟩:=hWW
    obtain rfl:=Option.some.inj ho
    have e0:a.eval (.tmp 47) = .pointer (some ⟨BB,4,none⟩):=hd 24 (by omega)
    have D:Done _ _ _ _ _ _ _ _ (a.eval (.tmp 45)) wr:=hd 22 (by omega)
    obtain ⟨b4,k4,q4,e4⟩:=D.1.1
    rw [e4] at D
    rw [evn] at e0 e4
    have hbw:=KI.box hW HBX.out (by decide) HNB.out
    have cx:wr.cell? ⟨BB,4,none⟩=some (.slice lad ls.length lc):=by rw [cell_of_row _ _ _ _ _ _ hbw];rfl
    have fx:wr.frozen? ⟨BB,4,none⟩=false:=frozen_of_row _ _ _ _ _ hbw
    obtain ⟨⟨us,KK⟩,KN⟩:=D.kept (j:=4) hW HBX.out (by decide) HNB.out (by decide)
    have hdf:=hE.df
    unfold Oper.wp
    go_simp
    refine hK _ _ ?_
    exact ⟨hdf,.tuple #[],by simp [results,Tryz.results104,go_sem],rfl,_,us,blk_set_same (j:=4) hbw _,KK,KN,D.1.2⟩
end Go.Proofs.YtecnfgikbmcgoaaGreat
