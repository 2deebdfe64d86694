import Derived.Test.YtecnfgikbmcgoaaGreatG30
import Derived.Test.YtecnfgikbmcgoaaGreatG3
import Derived.Maps.AppendAt
namespace Go.Proofs.YtecnfgikbmcgoaaGreat
open Go.RowKit
def mkY (M:Int):List Value:=[.int .i64 0,.int .i64 M]
theorem mkY_len (M:Int):(mkY M).length=2:=rfl
theorem mkY_pos (M:Int):0<(mkY M).length:=by rw [mkY_len];decide
theorem mkY_one (M:Int):∀ u∈mkY M,u.oneCell'=true:=by simp [mkY,Value.oneCell']
theorem repY_take (xs:List Value) (q:Nat) (M:Int) (h:q*2+2≤xs.length) (ht:xs.take (q*2)=rep q (mkY M)):(set2 xs (q*2) (.int .i64 0) (.int .i64 M)).take ((q+1)*2)=rep (q+1) (mkY M):=by
 rw [show (q+1)*2=q*2+2 by omega,take2 _ _ _ _ h,ht,rep_add,rep_one];rfl
def RY (BB base:Nat) (own:Option Nat) (M:Int) (n:Nat) (v vi:Value) (ls:List Value) (j:Nat) (x:Value) (w:World):Prop :=
 match j with
 | 0=>x = .pointer (some ⟨BB,0,none⟩)
 | 1=>x = .pointer (some ⟨BB,0,none⟩)
 | 2=>x = .pointer (some ⟨BB,0,none⟩)
 | 3=>x = .pointer (some ⟨BB,5,none⟩)
 | 4=>x=vi
 | 5=>x=v
 | 6=>x=v
 | 7=>x = .agg #[.int .i64 0,.int .i64 M]
 | 8=>NewB own vi 112 1 #[.int .i64 0,.int .i64 M] x w
 | 9=>Mk 112 base (mkY M) (n+1) x w
 | 10=>x=v
 | 11=>x = .agg #[.int .i64 0,.int .i64 M]
 | 12=>x = .agg #[.int .i64 0,.int .i64 M]
 | 13=>NewB own vi 112 2 #[.int .i64 0,.int .i64 M,.int .i64 0,.int .i64 M] x w
 | 14=>Mk 112 base (mkY M) (n+2) x w
 | 15=>x=v
 | 16=>x = .agg #[.int .i64 0,.int .i64 M]
 | 17=>x = .agg #[.int .i64 0,.int .i64 M]
 | 18=>x = .agg #[.int .i64 0,.int .i64 M]
 | 19=>NewB own vi 112 3 #[.int .i64 0,.int .i64 M,.int .i64 0,.int .i64 M,.int .i64 0,.int .i64 M] x w
 | 20=>Mk 112 base (mkY M) (n+3) x w
 | 21=>Four 112 41 base (mkY M) n v own vi x w
 | 22=>Done 112 41 base (mkY M) n v vi ls x w
 | 23=>x = .pointer (some ⟨BB,0,none⟩)
 | 24=>x = .pointer (some ⟨BB,5,none⟩)
 | _=>True
theorem RY.st {BB base:Nat} {own:Option Nat} {M:Int} {n:Nat} {v vi:Value} {ls:List Value} {w:World} (i j:Nat) (x:Value) (wa wb:World) (hij:i≠j) (h:RY BB base own M n v vi ls j x wa) (g:Gk 112 41 own base w (mkY M) n v vi ls (i≠22) wa wb):RY BB base own M n v vi ls j x wb:=by
 match j,h,hij with
 | 0,h,_=>exact h
 | 1,h,_=>exact h
 | 2,h,_=>exact h
 | 3,h,_=>exact h
 | 4,h,_=>exact h
 | 5,h,_=>exact h
 | 6,h,_=>exact h
 | 7,h,_=>exact h
 | 8,h,_=>exact NewB.gd h g
 | 9,h,_=>exact Mk.gd h g
 | 10,h,_=>exact h
 | 11,h,_=>exact h
 | 12,h,_=>exact h
 | 13,h,_=>exact NewB.gd h g
 | 14,h,_=>exact Mk.gd h g
 | 15,h,_=>exact h
 | 16,h,_=>exact h
 | 17,h,_=>exact h
 | 18,h,_=>exact h
 | 19,h,_=>exact NewB.gd h g
 | 20,h,_=>exact Mk.gd h g
 | 21,h,_=>exact Four.gd h g
 | 22,h,hij=>exact Done.gd h g hij
 | 23,h,_=>exact h
 | 24,h,_=>exact h
 | _+25,_,_=>trivial
structure EKY (BB MB:Nat) (v:Value) (a:Act):Prop where
 sz:48≤a.tmps.size
 df:a.defers=[]
 t0:a.eval (.tmp 0) = .pointer (some ⟨BB,0,none⟩)
 t1:a.eval (.tmp 1)=v
 t4:a.eval (.tmp 4) = .pointer (some ⟨MB,0,none⟩)
theorem EKY.put {BB MB:Nat} {v:Value} (a:Act) (i:Nat) (x:Value) (hi:i<25) (h:EKY BB MB v a):EKY BB MB v (a.put (some (23+i)) x):=by
 refine ⟨by simpa [Act.put] using h.sz,h.df,?_,?_,?_⟩ <;> rw [eval_put_other (by omega)]
 ·exact h.t0
 ·exact h.t1
 ·exact h.t4
set_option maxRecDepth 100000 in
set_option maxHeartbeats 4000000 in
theorem keepKeys_any (BB base:Nat) (a0 a1 a2 a3 a4:Value) (ad lad:Option Addr) (n cap lc:Nat) (xs ls:List Value) (w:World) (hn:n≤1099511627776) (hln:ls.length≤1099511627776)
  (hbx:w.heap[BB]? = some (.cells #[a0,a1,a2,a3,a4,.slice lad ls.length lc] 89 (0,0))) (hle:base≤w.heap.size)
  (hvi:w.ownsRow 0 41 1 (.slice lad ls.length lc) ls.length ls) (hv:w.ownsRow base 112 2 (.slice ad n cap) n xs) :
  Calls Tryz.prog 106 #[.pointer (some ⟨BB,0,none⟩),.slice ad n cap] w fun e w'=>e = .returned (.tuple #[]) ∧ ∃ vi' us,w'.heap[BB]? = some (.cells #[a0,a1,a2,a3,a4,vi'] 89 (0,0)) ∧
   Kept 112 41 (Value.ownBlock (.slice ad n cap)) base w w' (mkY (-1 - ls.length)) n (.slice ad n cap) vi' ls us∧(∀ z,z<w.heap.size→Value.ownBlock (.slice ad n cap)≠some z→Value.ownBlock (.slice lad ls.length lc)≠some z→z≠BB→w'.heap[z]? = w.heap[z]?) ∧ ∀ q,vi'.ownBlock=some q→Value.ownBlock (.slice lad ls.length lc)=some q∨base≤q:=by
 obtain ⟨i0,hi',hz0,hz1,hz2⟩:=info_parts Tryz.infoKey
 obtain ⟨i1,hi1,hz01,hz11,hz21⟩:=info_parts Tryz.infoSlKy
 have c0:w.cell? ⟨BB,5,none⟩=some (.slice lad ls.length lc):=by rw [cell_of_row _ _ _ _ _ _ hbx];rfl
 have hw1:wrap64 (-1 - (ls.length:Int)) = -1 - (ls.length:Int):=by unfold wrap64;go_num
 have hnb:Value.ownBlock (.slice ad n cap)≠some BB:=own_ne hv hbx (by decide)
 have HNB:=Hid.mk' hnb
 have HBX:=Hid.mk' hbx
 have HLE:=Hid.mk' hle
 have HVI:=Hid.mk' hvi
 have HV:=Hid.mk' hv
 have HNM:=Hid.mk' (own_lt' hv)
 have HNI:=Hid.mk' (own_lt' hvi)
 have hap:=Hid.mk' (own_apart hv hvi (by decide))
 obtain ⟨ad',cap',he,had⟩:=owns_shape hv
 obtain ⟨rfl,rfl⟩:ad'=ad∧cap'=cap:=by injection he with h1 _ h2;exact ⟨h1.symm,h2.symm⟩
 clear hvi hv hbx hnb hle he
 go_enter Tryz.func106,Tryz.ntmps106
 go_wp2_with fail
 go_loopw [5] (fun i wr=>∃ (q:Nat) (ys:List Value),q≤n∧i = .int .i64 q∧Hid (ys.take (q*2)=rep q (mkY (-1 - (ls.length:Int))))∧Hid (wr.ownsRow base 112 2 (.slice ad' n cap') n ys)∧Hid (Kv [] (Value.ownBlock (.slice ad' n cap')) 0 w wr ∧ ∀ z,z<w.heap.size→Value.ownBlock (.slice ad' n cap')≠some z→wr.heap[z]? = w.heap[z]?)∧Hid (wr.heap[w.heap.size]? = some (.cells #[.int .i64 0,.int .i64 (-1 - (ls.length:Int))] 112 (0,0)))) (fun i _=>n - (intOf i).toNat)
 case atStart=>exact ⟨0,xs,Nat.zero_le _,rfl,rfl,ownsGr HV.out ((Gr.refl w).alloc _),⟨Kv.gr ((Gr.refl w).alloc _) (Nat.zero_le _),fun z hz _=>heap_alloc_old _ _ hz⟩,heap_alloc_new w _⟩
 case round =>
  obtain ⟨q,ys,hq,rfl,HY,HO,HK,HM⟩:=hrel
  clear c0
  have m0:wr.cell? ⟨w.heap.size,0,none⟩=some (.int .i64 0):=by rw [cell_of_row _ _ _ _ _ _ HM.out];rfl
  have m1:wr.cell? ⟨w.heap.size,1,none⟩=some (.int .i64 (-1 - (ls.length:Int))):=by rw [cell_of_row _ _ _ _ _ _ HM.out];rfl
  by_cases hlt:q<n
  ·obtain ⟨g,rfl⟩:=had (by omega)
   have hgm:g≠w.heap.size:=fun he=>HNM.out (by rw [he];rfl)
   have hgm':w.heap.size≠g:=fun he=>hgm he.symm
   have hyl:ys.length=n*2:=HO.out.1
   obtain ⟨r0,rc0⟩:=row_some HO.out (q*2) (by omega)
   have rf0:=World.ownsRow.frozenAt HO.out (q*2)
   obtain ⟨r1,rc1⟩:=row_some HO.out (q*2+1) (by omega)
   have rf1:=World.ownsRow.frozenAt HO.out (q*2+1)
   have O1:=Hid.mk' (owns_set2 HO.out (q*2) (.int .i64 0) (.int .i64 (-1 - (ls.length:Int))))
   have hlow:=Nat.zero_le g
   have K1:=Hid.mk' (And.intro (Kv.own (j:=q*2+1) (Kv.own (j:=q*2) (HK.out.1) hlow (.int .i64 0)) hlow (.int .i64 (-1 - (ls.length:Int)))) (fun (z:Nat) (hz:z<w.heap.size) (hne:Value.ownBlock (.slice (some ⟨g,0,none⟩) n cap')≠some z)=>(Below.heap_setCell _ ⟨g,q*2+1,none⟩ (.int .i64 (-1 - (ls.length:Int))) z (fun (he:z=g)=>hne (by rw [he];rfl))).trans ((Below.heap_setCell _ ⟨g,q*2,none⟩ (.int .i64 0) z (fun (he:z=g)=>hne (by rw [he];rfl))).trans (HK.out.2 z hz hne))))
   have Y1:=Hid.mk' (repY_take ys q _ (by omega) HY.out)
   have M1:=Hid.mk' (blk_set (blk_set (HM.out) (p:=⟨g,q*2,none⟩) hgm' (.int .i64 0)) (p:=⟨g,q*2+1,none⟩) hgm' (.int .i64 (-1 - (ls.length:Int))))
   clear HY HO HK HM hlow
   go_wp2_with fail
   go_roundw
   case rel=>exact ⟨q+1,_,by omega,by go_num,Y1,O1,K1,M1⟩
   case measure=>simp [intOf];omega
  ·have hqn:q=n:=by omega
   subst hqn
   have hys:ys=rep q (mkY (-1 - (ls.length:Int))):=by rw [← HY.out,List.take_of_length_le (by rw [HO.out.1];omega)]
   have K0:Hid (KI 112 41 (Value.ownBlock (.slice ad' q cap')) base w wr (mkY (-1 - (ls.length:Int))) q (.slice ad' q cap') (.slice lad ls.length lc) ls []) :=
    ⟨HK.out.1.wide (by simp),Nat.le_trans HLE.out HK.out.1.size,fun z hz a _=>HK.out.2 z hz a,by rw [← hys];exact HO.out,HK.out.1.owns HVI.out (by simp) hap.out,by simp⟩
   clear HY HO HK hys ys m0 m1
   go_wp2_with fail
   refine region_S (c:=23) rfl 25 (by rfl) (RY BB base (Value.ownBlock (.slice ad' q cap')) (-1 - (ls.length:Int)) q (.slice ad' q cap') (.slice lad ls.length lc) ls) (EKY BB w.heap.size (.slice ad' q cap'))
    (fun wr=>KI 112 41 (Value.ownBlock (.slice ad' q cap')) base w wr (mkY (-1 - (ls.length:Int))) q (.slice ad' q cap') (.slice lad ls.length lc) ls []∧wr.heap[w.heap.size]? = some (.cells #[.int .i64 0,.int .i64 (-1 - (ls.length:Int))] 112 (0,0)))
    (fun i wa wb=>Gk 112 41 (Value.ownBlock (.slice ad' q cap')) base w (mkY (-1 - (ls.length:Int))) q (.slice ad' q cap') (.slice lad ls.length lc) ls (i≠22) wa wb)
    (fun a i x hi h=>EKY.put a i x hi h) (fun a h=>by have:=h.sz;omega) (fun i wa wb h g=>⟨g.ki h.1,g.bl _ _ _ _ h.2 HNM.out HNI.out⟩) (fun i j x wa wb hij h g=>RY.st i j x wa wb hij h g) ?front ?last ?e0 ⟨K0.out.drew,HM.out⟩
   case e0=>exact ⟨by simp,rfl,rfl,rfl,rfl⟩
   case front =>
    intro i o a wr ho hi hE hWW hd K hK
    obtain ⟨hW,hMB⟩:=hWW
    match i,ho,hi,hd,hK with
    | 0,ho,_,hd,hK =>
     obtain rfl:=Option.some.inj ho
     have e0:=(evn a 0).symm.trans hE.t0
     unfold Oper.wp
     go_simp
     exact hK _ _ (Gk.gr (Gr.refl _)) rfl
    | 1,ho,_,hd,hK =>
     obtain rfl:=Option.some.inj ho
     have e0:=(evn a 0).symm.trans hE.t0
     unfold Oper.wp
     go_simp
     exact hK _ _ (Gk.gr (Gr.refl _)) rfl
    | 5,ho,_,hd,hK =>
     obtain rfl:=Option.some.inj ho
     have e0:=(evn a 1).symm.trans hE.t1
     unfold Oper.wp
     go_simp
     exact hK _ _ (Gk.gr (Gr.refl _)) rfl
    | 6,ho,_,hd,hK =>
     obtain rfl:=Option.some.inj ho
     have e0:=(evn a 1).symm.trans hE.t1
     unfold Oper.wp
     go_simp
     exact hK _ _ (Gk.gr (Gr.refl _)) rfl
    | 10,ho,_,hd,hK =>
     obtain rfl:=Option.some.inj ho
     have e0:=(evn a 1).symm.trans hE.t1
     unfold Oper.wp
     go_simp
     exact hK _ _ (Gk.gr (Gr.refl _)) rfl
    | 15,ho,_,hd,hK =>
     obtain rfl:=Option.some.inj ho
     have e0:=(evn a 1).symm.trans hE.t1
     unfold Oper.wp
     go_simp
     exact hK _ _ (Gk.gr (Gr.refl _)) rfl
    | 7,ho,_,hd,hK =>
     obtain rfl:=Option.some.inj ho
     have e0:=(evn a 4).symm.trans hE.t4
     have n0:wr.cell? ⟨w.heap.size,0,none⟩=some (.int .i64 0):=by rw [cell_of_row _ _ _ _ _ _ hMB];rfl
     have n1:wr.cell? ⟨w.heap.size,1,none⟩=some (.int .i64 (-1 - (ls.length:Int))):=by rw [cell_of_row _ _ _ _ _ _ hMB];rfl
     unfold Oper.wp
     go_simp
     exact hK _ _ (Gk.gr (Gr.refl _)) rfl
    | 11,ho,_,hd,hK =>
     obtain rfl:=Option.some.inj ho
     have e0:=(evn a 4).symm.trans hE.t4
     have n0:wr.cell? ⟨w.heap.size,0,none⟩=some (.int .i64 0):=by rw [cell_of_row _ _ _ _ _ _ hMB];rfl
     have n1:wr.cell? ⟨w.heap.size,1,none⟩=some (.int .i64 (-1 - (ls.length:Int))):=by rw [cell_of_row _ _ _ _ _ _ hMB];rfl
     unfold Oper.wp
     go_simp
     exact hK _ _ (Gk.gr (Gr.refl _)) rfl
    | 12,ho,_,hd,hK =>
     obtain rfl:=Option.some.inj ho
     have e0:=(evn a 4).symm.trans hE.t4
     have n0:wr.cell? ⟨w.heap.size,0,none⟩=some (.int .i64 0):=by rw [cell_of_row _ _ _ _ _ _ hMB];rfl
     have n1:wr.cell? ⟨w.heap.size,1,none⟩=some (.int .i64 (-1 - (ls.length:Int))):=by rw [cell_of_row _ _ _ _ _ _ hMB];rfl
     unfold Oper.wp
     go_simp
     exact hK _ _ (Gk.gr (Gr.refl _)) rfl
    | 16,ho,_,hd,hK =>
     obtain rfl:=Option.some.inj ho
     have e0:=(evn a 4).symm.trans hE.t4
     have n0:wr.cell? ⟨w.heap.size,0,none⟩=some (.int .i64 0):=by rw [cell_of_row _ _ _ _ _ _ hMB];rfl
     have n1:wr.cell? ⟨w.heap.size,1,none⟩=some (.int .i64 (-1 - (ls.length:Int))):=by rw [cell_of_row _ _ _ _ _ _ hMB];rfl
     unfold Oper.wp
     go_simp
     exact hK _ _ (Gk.gr (Gr.refl _)) rfl
    | 17,ho,_,hd,hK =>
     obtain rfl:=Option.some.inj ho
     have e0:=(evn a 4).symm.trans hE.t4
     have n0:wr.cell? ⟨w.heap.size,0,none⟩=some (.int .i64 0):=by rw [cell_of_row _ _ _ _ _ _ hMB];rfl
     have n1:wr.cell? ⟨w.heap.size,1,none⟩=some (.int .i64 (-1 - (ls.length:Int))):=by rw [cell_of_row _ _ _ _ _ _ hMB];rfl
     unfold Oper.wp
     go_simp
     exact hK _ _ (Gk.gr (Gr.refl _)) rfl
    | 18,ho,_,hd,hK =>
     obtain rfl:=Option.some.inj ho
     have e0:=(evn a 4).symm.trans hE.t4
     have n0:wr.cell? ⟨w.heap.size,0,none⟩=some (.int .i64 0):=by rw [cell_of_row _ _ _ _ _ _ hMB];rfl
     have n1:wr.cell? ⟨w.heap.size,1,none⟩=some (.int .i64 (-1 - (ls.length:Int))):=by rw [cell_of_row _ _ _ _ _ _ hMB];rfl
     unfold Oper.wp
     go_simp
     exact hK _ _ (Gk.gr (Gr.refl _)) rfl
    | 2,ho,_,hd,hK =>
     obtain rfl:=Option.some.inj ho
     have e0:a.eval (.tmp 24) = .pointer (some ⟨BB,0,none⟩):=hd ⟨1,.data⟩ (by simp) rfl
     rw [evn] at e0
     unfold Oper.wp
     go_simp
     exact hK _ _ (Gk.gr (Gr.refl _)) rfl
    | 3,ho,_,hd,hK =>
     obtain rfl:=Option.some.inj ho
     have e0:a.eval (.tmp 25) = .pointer (some ⟨BB,0,none⟩):=hd ⟨2,.data⟩ (by simp) rfl
     rw [evn] at e0
     unfold Oper.wp
     go_simp
     exact hK _ _ (Gk.gr (Gr.refl _)) rfl
    | 23,ho,_,hd,hK =>
     obtain rfl:=Option.some.inj ho
     have e0:a.eval (.tmp 23) = .pointer (some ⟨BB,0,none⟩):=hd ⟨0,.data⟩ (by simp) rfl
     rw [evn] at e0
     unfold Oper.wp
     go_simp
     exact hK _ _ (Gk.gr (Gr.refl _)) rfl
    | 24,ho,_,hd,hK =>
     obtain rfl:=Option.some.inj ho
     have e0:a.eval (.tmp 46) = .pointer (some ⟨BB,0,none⟩):=hd ⟨23,.data⟩ (by simp) rfl
     rw [evn] at e0
     unfold Oper.wp
     go_simp
     exact hK _ _ (Gk.gr (Gr.refl _)) rfl
    | 4,ho,_,hd,hK =>
     obtain rfl:=Option.some.inj ho
     have e0:a.eval (.tmp 26) = .pointer (some ⟨BB,5,none⟩):=hd ⟨3,.data⟩ (by simp) rfl
     rw [evn] at e0
     have cx:wr.cell? ⟨BB,5,none⟩=some (.slice lad ls.length lc):=by rw [cell_of_row _ _ _ _ _ _ (KI.box hW HBX.out (by decide) HNB.out)];rfl
     unfold Oper.wp
     go_simp
     exact hK _ _ (Gk.gr (Gr.refl _)) rfl
    | 8,ho,_,hd,hK =>
     obtain rfl:=Option.some.inj ho
     have e7:a.eval (.tmp 30) = .agg #[.int .i64 0,.int .i64 (-1 - (ls.length:Int))]:=hd ⟨7,.data⟩ (by simp) rfl
     rw [evn] at e7
     unfold Oper.wp
     go_simp
     exact hK _ _ (Gk.gr ((Gr.refl _).alloc _)) (NewB.alloc hW rfl)
    | 13,ho,_,hd,hK =>
     obtain rfl:=Option.some.inj ho
     have e11:a.eval (.tmp 34) = .agg #[.int .i64 0,.int .i64 (-1 - (ls.length:Int))]:=hd ⟨11,.data⟩ (by simp) rfl
     have e12:a.eval (.tmp 35) = .agg #[.int .i64 0,.int .i64 (-1 - (ls.length:Int))]:=hd ⟨12,.data⟩ (by simp) rfl
     rw [evn] at e11
     rw [evn] at e12
     unfold Oper.wp
     go_simp
     exact hK _ _ (Gk.gr ((Gr.refl _).alloc _)) (NewB.alloc hW rfl)
    | 19,ho,_,hd,hK =>
     obtain rfl:=Option.some.inj ho
     have e16:a.eval (.tmp 39) = .agg #[.int .i64 0,.int .i64 (-1 - (ls.length:Int))]:=hd ⟨16,.data⟩ (by simp) rfl
     have e17:a.eval (.tmp 40) = .agg #[.int .i64 0,.int .i64 (-1 - (ls.length:Int))]:=hd ⟨17,.data⟩ (by simp) rfl
     have e18:a.eval (.tmp 41) = .agg #[.int .i64 0,.int .i64 (-1 - (ls.length:Int))]:=hd ⟨18,.data⟩ (by simp) rfl
     rw [evn] at e16
     rw [evn] at e17
     rw [evn] at e18
     unfold Oper.wp
     go_simp
     exact hK _ _ (Gk.gr ((Gr.refl _).alloc _)) (NewB.alloc hW rfl)
    | 9,ho,_,hd,hK =>
     obtain rfl:=Option.some.inj ho
     have e0:a.eval (.tmp 29) = .slice ad' q cap':=hd ⟨6,.data⟩ (by simp) rfl
     obtain ⟨B,e1,_,_,hb⟩:NewB _ _ _ _ _ (a.eval (.tmp 31)) wr:=hd ⟨8,.data⟩ (by simp) rfl
     refine wp_append_rep _ (.tmp 29) (.tmp 31) 41 rfl base 112 i0 _ 16 (mkY (-1 - (ls.length:Int))) Tryz.underlying41 hi' hz0 hz1 hz2 rfl (mkY_pos _) (.slice ad' q cap') q e0 hW.v0 ⟨B,0,none⟩ 1 1 e1 (World.news_of_block hb) (mkY_one _) (by unfold maxLen;omega) (by omega) hW.le ?_
     intro v' x' o' g' r'
     exact hK _ _ (Gk.app (by decide) rfl hW.v0 o' g' r') ⟨owns_slice o',o'⟩
    | 14,ho,_,hd,hK =>
     obtain rfl:=Option.some.inj ho
     have e0:a.eval (.tmp 33) = .slice ad' q cap':=hd ⟨10,.data⟩ (by simp) rfl
     obtain ⟨B,e1,_,_,hb⟩:NewB _ _ _ _ _ (a.eval (.tmp 36)) wr:=hd ⟨13,.data⟩ (by simp) rfl
     refine wp_append_rep _ (.tmp 33) (.tmp 36) 41 rfl base 112 i0 _ 16 (mkY (-1 - (ls.length:Int))) Tryz.underlying41 hi' hz0 hz1 hz2 rfl (mkY_pos _) (.slice ad' q cap') q e0 hW.v0 ⟨B,0,none⟩ 2 2 e1 (World.news_of_block hb) (mkY_one _) (by unfold maxLen;omega) (by omega) hW.le ?_
     intro v' x' o' g' r'
     exact hK _ _ (Gk.app (by decide) rfl hW.v0 o' g' r') ⟨owns_slice o',o'⟩
    | 20,ho,_,hd,hK =>
     obtain rfl:=Option.some.inj ho
     have e0:a.eval (.tmp 38) = .slice ad' q cap':=hd ⟨15,.data⟩ (by simp) rfl
     obtain ⟨B,e1,_,_,hb⟩:NewB _ _ _ _ _ (a.eval (.tmp 42)) wr:=hd ⟨19,.data⟩ (by simp) rfl
     refine wp_append_rep _ (.tmp 38) (.tmp 42) 41 rfl base 112 i0 _ 16 (mkY (-1 - (ls.length:Int))) Tryz.underlying41 hi' hz0 hz1 hz2 rfl (mkY_pos _) (.slice ad' q cap') q e0 hW.v0 ⟨B,0,none⟩ 3 3 e1 (World.news_of_block hb) (mkY_one _) (by unfold maxLen;omega) (by omega) hW.le ?_
     intro v' x' o' g' r'
     exact hK _ _ (Gk.app (by decide) rfl hW.v0 o' g' r') ⟨owns_slice o',o'⟩
    | 21,ho,_,hd,hK =>
     obtain rfl:=Option.some.inj ho
     have e0:a.eval (.tmp 28) = .slice ad' q cap':=hd ⟨5,.data⟩ (by simp) rfl
     have m1:Mk _ _ _ _ (a.eval (.tmp 32)) wr:=hd ⟨9,.data⟩ (by simp) rfl
     have m2:Mk _ _ _ _ (a.eval (.tmp 37)) wr:=hd ⟨14,.data⟩ (by simp) rfl
     have m3:Mk _ _ _ _ (a.eval (.tmp 43)) wr:=hd ⟨20,.data⟩ (by simp) rfl
     have g4:=Gk.gr (T:=112) (TS:=41) (own:=Value.ownBlock (.slice ad' q cap')) (base:=base) (w:=w) (mk:=mkY (-1 - (ls.length:Int))) (n:=q) (v:=.slice ad' q cap') (vi:=.slice lad ls.length lc) (ls:=ls) (s:=21≠22) ((Gr.refl wr).alloc (.cells #[.slice ad' q cap',a.eval (.tmp 32),a.eval (.tmp 37),a.eval (.tmp 43)] 41))
     have F:Four _ _ _ _ _ _ _ _ _ _:=⟨_,_,_,NewB.alloc (T':=41) (k:=4) (cs:=#[.slice ad' q cap',a.eval (.tmp 32),a.eval (.tmp 37),a.eval (.tmp 43)]) hW rfl,m1.gd g4,m2.gd g4,m3.gd g4⟩
     obtain ⟨b1,k1,q1,e1⟩:=m1.1
     obtain ⟨b2,k2,q2,e2⟩:=m2.1
     obtain ⟨b3,k3,q3,e3⟩:=m3.1
     rw [e1,e2,e3] at g4 F
     clear m1 m2 m3
     rw [evn] at e0 e1 e2 e3
     unfold Oper.wp
     go_simp
     exact hK _ _ g4 F
    | 22,ho,_,hd,hK =>
     obtain rfl:=Option.some.inj ho
     have e0:a.eval (.tmp 27) = .slice lad ls.length lc:=hd ⟨4,.data⟩ (by simp) rfl
     obtain ⟨v1,v2,v3,⟨B,e1,_,_,hb⟩,m1,m2,m3⟩:Four _ _ _ _ _ _ _ _ (a.eval (.tmp 44)) wr:=hd ⟨21,.data⟩ (by simp) rfl
     obtain ⟨b1,k1,q1,rfl⟩:=m1.1
     obtain ⟨b2,k2,q2,rfl⟩:=m2.1
     obtain ⟨b3,k3,q3,rfl⟩:=m3.1
     refine wp_append_keep2 _ (.tmp 27) (.tmp 44) 87 rfl 0 41 i1 _ 1 24 Tryz.underlying87 hi1 hz01 hz11 hz21 rfl Nat.zero_lt_one (.slice lad ls.length lc) ls.length ls e0 hW.vi ⟨B,0,none⟩ 4 4 [.slice ad' q cap',.slice b1 k1 q1,.slice b2 k2 q2,.slice b3 k3 q3] e1 rfl (World.news_of_block hb) (by simp [Value.oneCell']) (by unfold maxLen;omega) (by omega) (Nat.zero_le _) (by decide) ?_
     intro v' x' o' g' r' nb'
     have g4:=Gk.app4 (base:=base) (T:=112) (own:=Value.ownBlock (.slice ad' q cap')) (w:=w) (mk:=mkY (-1 - (ls.length:Int))) (n:=q) (v:=.slice ad' q cap') (by decide) hW.vi r' g'
     exact hK _ _ ⟨g4.mks,g4.bl,g4.ki,fun h=>absurd rfl h⟩ ⟨⟨owns_slice o',fun q hq=>nb'.imp (fun e=>e.symm.trans hq) (fun e=>by rw [e] at hq;injection hq with hq;rw [← hq];exact hW.le)⟩,_,_,_,o',m1.gd g4,m2.gd g4,m3.gd g4⟩
    | k+25,_,hi,_,_=>exact absurd hi (by omega)
   case last =>
    intro o a wr ho hE hWW hd K hK
    obtain ⟨hW,_⟩:=hWW
    obtain rfl:=Option.some.inj ho
    have e0:a.eval (.tmp 47) = .pointer (some ⟨BB,5,none⟩):=hd 24 (by omega)
    have D:Done _ _ _ _ _ _ _ _ (a.eval (.tmp 45)) wr:=hd 22 (by omega)
    obtain ⟨b4,k4,q4,e4⟩:=D.1.1
    rw [e4] at D
    rw [evn] at e0 e4
    have hbw:=KI.box hW HBX.out (by decide) HNB.out
    have cx:wr.cell? ⟨BB,5,none⟩=some (.slice lad ls.length lc):=by rw [cell_of_row _ _ _ _ _ _ hbw];rfl
    have fx:wr.frozen? ⟨BB,5,none⟩=false:=frozen_of_row _ _ _ _ _ hbw
    obtain ⟨⟨us,KK⟩,KN⟩:=D.kept (j:=5) hW HBX.out (by decide) HNB.out (by decide)
    have hdf:=hE.df
    unfold Oper.wp
    go_simp
    refine hK _ _ ?_
    exact ⟨hdf,.tuple #[],by simp [results,Tryz.results106,go_sem],rfl,_,us,blk_set_same (j:=5) hbw _,KK,KN,D.1.2⟩
theorem Tryz.infoWantA:(Tryz.prog.info? 76).map (fun i=>(i.zero,i.size,i.bytes))=some (some (.agg #[.string ⟨#[]⟩,.int .i64 0,.int .i64 0,.int .i64 0,.string ⟨#[]⟩]),5,56):=by kernel_rfl
theorem Tryz.infoSlA:(Tryz.prog.info? 47).map (fun i=>(i.zero,i.size,i.bytes))=some (some (.slice none 0 0),1,24):=by kernel_rfl
theorem Tryz.infoSlR:(Tryz.prog.info? 90).map (fun i=>(i.zero,i.size,i.bytes))=some (some (.slice none 0 0),1,24):=by kernel_rfl
set_option maxRecDepth 100000 in
set_option maxHeartbeats 4000000 in
theorem filter_fr (f:List Wnt) (ad:Option Addr) (cap:Nat) (base LB:Nat) (ve vew vf vw:Value) (Fs:List FE) (w:World) (hne:f≠[]) (hlen:f.length≤2513169434845) (hF:FiK base w ad f) (hwf:∀ x∈f,Wnt.Wf x)
  (hn:Fs.length≤1099511627776) (hL:LnF w base LB ve vew vf vw Fs) :
  Calls Tryz.prog 60 #[.pointer (some ⟨LB,0,none⟩),.slice ad f.length cap] w fun e w'=>∃ g vf' vw',e = .returned (.slice (some ⟨g,0,none⟩) f.length (f.length+8))∧Kp tsF base w w'∧w.heap.size≤g ∧
   LnF w' base LB ve vew vf' vw' (Fs++[⟨g,f,ad,cap⟩])∧(∀ k,k<w.heap.size→k≠LB→some k≠vf.ownBlock→some k≠vw.ownBlock→w'.heap[k]? = w.heap[k]?)∧(∀ q,vf'.ownBlock=some q→vf.ownBlock=some q∨w.heap.size≤q) ∧ ∀ q,vw'.ownBlock=some q→vw.ownBlock=some q∨w.heap.size≤q:=by
 obtain ⟨i0,hi,hz0,hz1,hz2⟩:=info_parts Tryz.infoWantA
 obtain ⟨i1,hi1,hz01,hz11,hz21⟩:=info_parts Tryz.infoSlA
 obtain ⟨i2,hi2,hz02,hz12,hz22⟩:=info_parts Tryz.infoSlR
 have HL:Hid (LnF w base LB ve vew vf vw Fs):=hL
 have HW:Hid (∀ x∈f,Wnt.Wf x):=hwf
 have HN:Hid (f≠[]):=hne
 have hpos:0<f.length:=by cases f <;> simp_all
 have hp0:((f.length:Int)==0)=false:=by simp;exact hne
 obtain ⟨b,off,rfl,hbw,hb,hat⟩:=hF
 have HB:Hid (b<base ∨ ∃ cs fr,w.heap[b]? = some (.cells cs 96 fr)):=hb
 have HBW:Hid (b<w.heap.size):=hbw
 have HA:Hid (WantsAt w b off f):=hat
 clear hL hwf hne hat hb
 go_enter Tryz.func60,Tryz.ntmps60
 go_wp2_with (at_make;refine wpList_make_full _ rfl _ _ 47 rfl w.heap.size 76 i0 _ 5 Tryz.underlying47 hi hz0 hz1 _ _ _ _ (f.length+8) rfl rfl (by omega) (by omega) ?b2 ?b3 ?b4 ?_)
 case b2=>rw [hz2];omega
 case b3=>unfold maxLen;omega
 case b4=>exact Nat.le_refl _
 intro w1 hown1 hgrow1
 have g1:Gr w w1:=Below.grown (Gr.refl w) hgrow1 (Nat.le_refl _) (fun b hb=>by cases hb)
 have HO1:Hid (w1.ownsRow w.heap.size 76 5 (.slice (some ⟨w.heap.size,0,none⟩) (f.length+8) (f.length+8)) (f.length+8) _):=hown1
 clear hown1 hgrow1
 go_wp2
 go_loopw [6] (fun i wr=>∃ (q:Nat) (xs:List Value),q≤f.length+8∧i = .int .i64 q∧Gr w wr∧Hid (xs.take (q*5)=wcells ((outW f).take q))∧Hid (wr.ownsRow w.heap.size 76 5 (.slice (some ⟨w.heap.size,0,none⟩) (f.length+8) (f.length+8)) (f.length+8) xs)) (fun i _=>f.length+8 - (intOf i).toNat)
 case atStart=>exact ⟨0,_,Nat.zero_le _,rfl,g1,rfl,HO1⟩
 case round =>
  obtain ⟨q,xs,hq,rfl,g,HX,HO⟩:=hrel
  have hxl:xs.length=(f.length+8)*5:=HO.out.1
  by_cases hlt:q<f.length+8
  ·have O1:Hid ((((((wr.setCell ⟨w.heap.size,q*5,none⟩ (.string ⟨#[115,112,97,114,101]⟩)).setCell ⟨w.heap.size,q*5+1,none⟩ (.int .i64 0)).setCell ⟨w.heap.size,q*5+1+1,none⟩ (.int .i64 0)).setCell ⟨w.heap.size,q*5+1+1+1,none⟩ (.int .i64 0)).setCell ⟨w.heap.size,q*5+1+1+1+1,none⟩ (.string ⟨#[]⟩)).ownsRow w.heap.size 76 5 (.slice (some ⟨w.heap.size,0,none⟩) (f.length+8) (f.length+8)) (f.length+8) (set5 xs (q*5) (.string ⟨#[115,112,97,114,101]⟩) (.int .i64 0) (.int .i64 0) (.int .i64 0) (.string ⟨#[]⟩))):=owns_set5 HO.out (q*5) _ _ _ _ _
   have G1:Gr w (((((wr.setCell ⟨w.heap.size,q*5,none⟩ (.string ⟨#[115,112,97,114,101]⟩)).setCell ⟨w.heap.size,q*5+1,none⟩ (.int .i64 0)).setCell ⟨w.heap.size,q*5+1+1,none⟩ (.int .i64 0)).setCell ⟨w.heap.size,q*5+1+1+1,none⟩ (.int .i64 0)).setCell ⟨w.heap.size,q*5+1+1+1+1,none⟩ (.string ⟨#[]⟩)):=gr_set5 (Nat.le_refl _) g _ _ _ _ _
   obtain ⟨r0,rc0⟩:=row_some HO.out (q*5) (by omega)
   have rf0:=World.ownsRow.frozenAt HO.out (q*5)
   obtain ⟨r1,rc1⟩:=row_some HO.out (q*5+1) (by omega)
   have rf1:=World.ownsRow.frozenAt HO.out (q*5+1)
   obtain ⟨r2,rc2⟩:=row_some HO.out (q*5+1+1) (by omega)
   have rf2:=World.ownsRow.frozenAt HO.out (q*5+1+1)
   obtain ⟨r3,rc3⟩:=row_some HO.out (q*5+1+1+1) (by omega)
   have rf3:=World.ownsRow.frozenAt HO.out (q*5+1+1+1)
   obtain ⟨r4,rc4⟩:=row_some HO.out (q*5+1+1+1+1) (by omega)
   have rf4:=World.ownsRow.frozenAt HO.out (q*5+1+1+1+1)
   by_cases hqf:q<f.length
   ·have hbne:b≠w.heap.size:=by omega
    have hbne':w.heap.size≠b:=by omega
    obtain ⟨c1,c2,c3,c4,c5⟩:=(HA.out.gr g hbw) q hqf
    go_wp2_with fail
    refine (lawWant_any _ _ _ _ _ _).mono ?_
    rintro e w2 ⟨rfl,hb2⟩
    have O2:Hid (w2.ownsRow w.heap.size 76 5 (.slice (some ⟨w.heap.size,0,none⟩) (f.length+8) (f.length+8)) (f.length+8) (set5 xs (q*5) (.string ⟨#[115,112,97,114,101]⟩) (.int .i64 0) (.int .i64 0) (.int .i64 0) (.string ⟨#[]⟩))):=ownsGr O1.out hb2
    have G2:Gr w w2:=Gr.call G1 hb2
    clear c1 c2 c3 c4 c5 rc0 rf0 rc1 rf1 rc2 rf2 rc3 rf3 rc4 rf4 hb2 O1 G1
    obtain ⟨s0,sc0⟩:=row_some O2.out (q*5) (by omega)
    have sf0:=World.ownsRow.frozenAt O2.out (q*5)
    obtain ⟨s1,sc1⟩:=row_some O2.out (q*5+1) (by omega)
    have sf1:=World.ownsRow.frozenAt O2.out (q*5+1)
    obtain ⟨s2,sc2⟩:=row_some O2.out (q*5+1+1) (by omega)
    have sf2:=World.ownsRow.frozenAt O2.out (q*5+1+1)
    obtain ⟨s3,sc3⟩:=row_some O2.out (q*5+1+1+1) (by omega)
    have sf3:=World.ownsRow.frozenAt O2.out (q*5+1+1+1)
    obtain ⟨s4,sc4⟩:=row_some O2.out (q*5+1+1+1+1) (by omega)
    have sf4:=World.ownsRow.frozenAt O2.out (q*5+1+1+1+1)
    have HX2:Hid ((set5 (set5 xs (q*5) (.string ⟨#[115,112,97,114,101]⟩) (.int .i64 0) (.int .i64 0) (.int .i64 0) (.string ⟨#[]⟩)) (q*5) (.string (wat f q).a) (.int .i64 (wat f q).y) (.int .i64 (wat f q).k) (.int .i64 (wat f q).n) (.string (wat f q).s)).take ((q+1)*5)=wcells ((outW f).take (q+1))):=by
     show _=_
     rw [show (q+1)*5=q*5+5 by omega,take5 _ _ _ _ _ _ _ (by rw [set5_len];omega),wcells_take _ q (by rw [outW_len];omega),outW_in hqf]
     congr 1
     rw [← HX.out];unfold set5
     rw [List.take_set_of_le (by omega),List.take_set_of_le (by omega),List.take_set_of_le (by omega),List.take_set_of_le (by omega),List.take_set_of_le (by omega)]
    have O3:=owns_set5 O2.out (q*5) (.string (wat f q).a) (.int .i64 (wat f q).y) (.int .i64 (wat f q).k) (.int .i64 (wat f q).n) (.string (wat f q).s)
    have G3:=gr_set5 (Nat.le_refl _) G2 (.string (wat f q).a) (.int .i64 (wat f q).y) (.int .i64 (wat f q).k) (.int .i64 (wat f q).n) (.string (wat f q).s) (k:=q*5)
    have O3':Hid _:=O3
    have G3':Hid _:=G3
    clear O3 G3
    go_wp2_with fail
    go_roundw
    case rel=>exact ⟨q+1,_,by omega,by go_num,G3'.out,HX2,O3'⟩
    case measure=>simp [intOf];omega
   ·have HX1:Hid ((set5 xs (q*5) (.string ⟨#[115,112,97,114,101]⟩) (.int .i64 0) (.int .i64 0) (.int .i64 0) (.string ⟨#[]⟩)).take ((q+1)*5)=wcells ((outW f).take (q+1))):=by
     show _=_
     rw [show (q+1)*5=q*5+5 by omega,take5 _ _ _ _ _ _ _ (by omega),HX.out,wcells_take _ q (by rw [outW_len];omega),outW_past hqf hlt];rfl
    go_wp2_with fail
    go_roundw
    case rel=>exact ⟨q+1,_,by omega,by go_num,G1,HX1,O1⟩
    case measure=>simp [intOf];omega
  ·have hq8:q=f.length+8:=by omega
   subst hq8
   have HXS:Hid (xs=wcells (outW f)):=by
    show _=_
    have h:=HX.out
    rw [List.take_of_length_le (by omega),List.take_of_length_le (by rw [outW_len];exact Nat.le_refl _)] at h
    exact h
   have HO':Hid (wr.ownsRow w.heap.size 76 5 (.slice (some ⟨w.heap.size,0,none⟩) (f.length+8) (f.length+8)) (f.length+8) (wcells (outW f))):=by
    show World.ownsRow _ _ _ _ _ _ _
    rw [← HXS.out];exact HO.out
   have L1:Hid (LnF wr base LB ve vew vf vw Fs):=HL.out.gr g
   have cf:wr.cell? ⟨LB,2,none⟩=some vf:=by rw [cell_of_row _ _ _ _ _ _ L1.out.box];rfl
   have ff:wr.frozen? ⟨LB,2,none⟩=false:=frozen_of_row _ _ _ _ _ L1.out.box
   have hls:base≤wr.heap.size:=L1.out.le
   have L0:Hid (LnF w base LB ve vew vf vw Fs):=HL
   have HA0:Hid (WantsAt w b off f):=HA
   clear HX HO HXS HL HA
   go_wp2_with (at_builtin;refine wpList_append_own_at _ rfl _ _ 84 rfl base 47 i1 _ 1 24 Tryz.underlying84 hi1 hz01 hz11 hz21 rfl (by decide) _ _ _ rfl (L1.out.ownf.alloc _) ⟨wr.heap.size,0,none⟩ 1 1 [.slice (some ⟨w.heap.size,0,none⟩) (f.length+8) (f.length+8)] rfl rfl (cell_one_new _ _ _) ?d2 ?d3 ?d4 ?d5 ?_)
   case d2=>intro u hu;simp at hu;subst hu;rfl
   case d3=>unfold maxLen;omega
   case d4=>omega
   case d5=>simp;omega
   intro vf' w5 hown5 hgrow5 _ nb5
   have VF:Hid (∀ q,vf'.ownBlock=some q→vf.ownBlock=some q∨w.heap.size≤q):=fun q hq=>nb5.imp (fun e=>e.symm.trans hq) (fun e=>by rw [e] at hq;injection hq with hq;rw [← hq];have:=g.size;omega)
   clear nb5
   have KF5:Hid (∀ k,k<w.heap.size→some k≠vf.ownBlock→w5.heap[k]? = w.heap[k]?):=fun k hk hn=>(hgrow5.block k (by rw [size_alloc'];have:=g.size;omega) hn).trans ((heap_alloc_old _ _ (Nat.lt_of_lt_of_le hk g.size)).trans (g.block k hk))
   have up:∀ k o,wr.heap[k]? = some o→(wr.alloc (.cells #[.slice (some ⟨w.heap.size,0,none⟩) (f.length+8) (f.length+8)] 47)).heap[k]? = some o:=fun k o hk=>by rw [heap_alloc_old _ _ (blk_lt hk)];exact hk
   have X5:Hid (w5.heap[LB]? = some (.cells #[ve,vew,vf,vw] 152 (0,0))):=grown_block hgrow5 (up _ _ L1.out.box) (own_ne L1.out.ownf L1.out.box (by decide))
   have W5:Hid (w5.ownsRow base 90 1 vw Fs.length (Fs.map FE.wc)):=owns_kept (L1.out.ownw.alloc _) hgrow5 (own_apart L1.out.ownf L1.out.ownw (by decide))
   have U5:Hid (∀ e∈Fs,w5.heap[e.g]? = some (.cells (wcells (outW e.f)).toArray 76 (0,0))):=fun e he=>grown_block hgrow5 (up _ _ (L1.out.outs e he).2) (own_ne L1.out.ownf (L1.out.outs e he).2 (by decide))
   have N5:Hid (w5.heap[w.heap.size]? = some (.cells (wcells (outW f)).toArray 76 (0,0))):=grown_block hgrow5 (up _ _ (owns_arr HO'.out)) (own_ne L1.out.ownf (owns_arr HO'.out) (by decide))
   have G5:Kp tsF base w w5:=Kp.grown ((Kp.gr g L0.out.le).alloc hls _) (L1.out.ownf.alloc _) (by decide) hgrow5 (by simp;omega)
   have O5:Hid (w5.ownsRow base 47 1 vf' (Fs++[(⟨w.heap.size,f,some ⟨b,off,none⟩,cap⟩:FE)]).length ((Fs++[(⟨w.heap.size,f,some ⟨b,off,none⟩,cap⟩:FE)]).map FE.fc)):=by
    show World.ownsRow _ _ _ _ _ _ _
    rw [List.length_append,List.map_append];exact hown5
   have z5:w.heap.size<w5.heap.size:=blk_lt N5.out
   have x5:w5.cell? ⟨LB,2,none⟩=some vf:=by rw [cell_of_row _ _ _ _ _ _ X5.out];rfl
   have y5:w5.frozen? ⟨LB,2,none⟩=false:=frozen_of_row _ _ _ _ _ X5.out
   have x6:w5.cell? ⟨LB,3,none⟩=some vw:=by rw [cell_of_row _ _ _ _ _ _ X5.out];rfl
   obtain ⟨fa,fm,fk,rfl⟩:=owns_slice hown5
   clear hown5 hgrow5 up cf ff
   have W6:Hid ((w5.setCell ⟨LB,2,none⟩ (.slice fa fm fk)).ownsRow base 90 1 vw Fs.length (Fs.map FE.wc)):=owns_set W5.out X5.out (by decide) _
   go_wp2_with (at_builtin;refine wpList_append_own_at _ rfl _ _ 150 rfl base 90 i2 _ 1 24 Tryz.underlying150 hi2 hz02 hz12 hz22 rfl (by decide) _ _ _ rfl (W6.out.alloc _) ⟨w5.heap.size,0,none⟩ 1 1 [.slice (some ⟨b,off,none⟩) f.length cap] rfl rfl ?k1 ?k2 ?k3 ?k4 ?k5 ?_)
   case k1=>rw [← size_set w5 ⟨LB,2,none⟩ (.slice fa fm fk)];exact cell_one_new _ _ _
   case k2=>intro u hu;simp at hu;subst hu;rfl
   case k3=>unfold maxLen;omega
   case k4=>omega
   case k5=>rw [size_alloc',size_set];have:=G5.size;have:=L0.out.le;omega
   intro vw' w6 hown6 hgrow6 _ nb6
   have VW:Hid (∀ q,vw'.ownBlock=some q→vw.ownBlock=some q∨w.heap.size≤q):=fun q hq=>nb6.imp (fun e=>e.symm.trans hq) (fun e=>by rw [e] at hq;injection hq with hq;rw [← hq];omega)
   clear nb6
   obtain ⟨wa,wm,wk,rfl⟩:=owns_slice hown6
   have KF6:Hid (∀ k,k<w.heap.size→k≠LB→some k≠vf.ownBlock→some k≠vw.ownBlock→(w6.setCell ⟨LB,3,none⟩ (.slice wa wm wk)).heap[k]? = w.heap[k]?):=fun k hk h1 h2 h3=>(Below.heap_setCell w6 ⟨LB,3,none⟩ _ k h1).trans ((hgrow6.block k (by rw [size_alloc',size_set];omega) h3).trans ((heap_alloc_old _ _ (by rw [size_set];omega)).trans ((Below.heap_setCell w5 ⟨LB,2,none⟩ _ k h1).trans (KF5.out k hk h2))))
   have up:∀ k o,(w5.setCell ⟨LB,2,none⟩ (.slice fa fm fk)).heap[k]? = some o→((w5.setCell ⟨LB,2,none⟩ (.slice fa fm fk)).alloc (.cells #[.slice (some ⟨b,off,none⟩) f.length cap] 90)).heap[k]? = some o:=fun k o hk=>by rw [heap_alloc_old _ _ (blk_lt hk)];exact hk
   have Y5:=blk_set_same (j:=2) X5.out (.slice fa fm fk)
   have hlbn:∀ k cs fr,w5.heap[k]? = some (.cells cs 76 fr)→k≠LB:=fun k cs fr hk he=>by
    subst he;rw [X5.out] at hk;injection hk with hk;injection hk with _ hk;exact absurd hk (by decide)
   have X6:Hid (w6.heap[LB]? = some (.cells #[ve,vew,.slice fa fm fk,vw] 152 (0,0))):=grown_block hgrow6 (up _ _ Y5) (own_ne W6.out Y5 (by decide))
   have O6:Hid (w6.ownsRow base 47 1 (.slice fa fm fk) (Fs++[(⟨w.heap.size,f,some ⟨b,off,none⟩,cap⟩:FE)]).length ((Fs++[(⟨w.heap.size,f,some ⟨b,off,none⟩,cap⟩:FE)]).map FE.fc)):=owns_kept ((owns_set O5.out X5.out (by decide) _).alloc _) hgrow6 (own_apart W6.out (owns_set O5.out X5.out (by decide) _) (by decide))
   have keepW:∀ (k:Nat) (cs:Array Value),w5.heap[k]? = some (.cells cs 76 (0,0))→w6.heap[k]? = some (.cells cs 76 (0,0)):=fun k cs hk=>by
    have h1:=blk_set hk (p:=⟨LB,2,none⟩) (hlbn _ _ _ hk) (.slice fa fm fk)
    exact grown_block hgrow6 (up _ _ h1) (own_ne W6.out h1 (by decide))
   have hlbn6:∀ k cs fr,w6.heap[k]? = some (.cells cs 76 fr)→k≠LB:=fun k cs fr hk he=>by
    subst he;rw [X6.out] at hk;injection hk with hk;injection hk with _ hk;exact absurd hk (by decide)
   have U6:Hid (∀ e∈Fs++[(⟨w.heap.size,f,some ⟨b,off,none⟩,cap⟩:FE)],w6.heap[e.g]? = some (.cells (wcells (outW e.f)).toArray 76 (0,0))):=fun e he=>by
    rcases List.mem_append.mp he with he | he
    ·exact keepW _ _ (U5.out e he)
    ·simp only [List.mem_singleton] at he;subst he;exact keepW _ _ N5.out
   have W7:Hid (w6.ownsRow base 90 1 (.slice wa wm wk) (Fs++[(⟨w.heap.size,f,some ⟨b,off,none⟩,cap⟩:FE)]).length ((Fs++[(⟨w.heap.size,f,some ⟨b,off,none⟩,cap⟩:FE)]).map FE.wc)):=by
    show World.ownsRow _ _ _ _ _ _ _
    rw [List.length_append,List.map_append];exact hown6
   have G6:Kp tsF base w w6:=Kp.grown ((Kp.set (j:=2) G5 X5.out (by decide) L0.out.lb (.slice fa fm fk)).alloc (by rw [size_set];have:=G5.size;have:=L0.out.le;omega) _) (W6.out.alloc _) (by decide) hgrow6 (by rw [size_alloc',size_set];have:=G5.size;have:=L0.out.le;omega)
   have LN:Hid (LnF (w6.setCell ⟨LB,3,none⟩ (.slice wa wm wk)) base LB ve vew (.slice fa fm fk) (.slice wa wm wk) (Fs++[⟨w.heap.size,f,some ⟨b,off,none⟩,cap⟩])):=by
    refine ⟨L0.out.lb,by rw [size_set];exact Nat.le_trans L0.out.le G6.size,blk_set_same (j:=3) X6.out _,owns_set O6.out X6.out (by decide) _,owns_set W7.out X6.out (by decide) _,?_,?_,?_⟩
    ·intro e he
     refine ⟨?_,blk_set (U6.out e he) (p:=⟨LB,3,none⟩) (hlbn6 _ _ _ (U6.out e he)) _⟩
     ·rcases List.mem_append.mp he with he | he
      ·exact (L0.out.outs e he).1
      ·simp only [List.mem_singleton] at he;subst he;exact L0.out.le
    ·have GB:Kp tsF base w (w6.setCell ⟨LB,3,none⟩ (.slice wa wm wk)):=Kp.set (j:=3) G6 X6.out (by decide) L0.out.lb _
     intro e he
     rcases List.mem_append.mp he with he | he
     ·exact ⟨(L0.out.args e he).1,(L0.out.args e he).2.1.kp GB (by decide),(L0.out.args e he).2.2⟩
     ·simp only [List.mem_singleton] at he;subst he
      exact ⟨HN.out,FiK.kp ⟨b,off,rfl,HBW.out,HB.out,HA0.out⟩ GB (by decide),HW.out⟩
    ·rw [List.map_append,List.nodup_append]
     refine ⟨L0.out.nodup,by simp,?_⟩
     intro x hx y hy
     obtain ⟨e,he,rfl⟩:=List.mem_map.mp hx
     simp only [List.map_cons,List.map_nil,List.mem_singleton] at hy
     have:=blk_lt (L0.out.outs e he).2
     rw [hy];show e.g≠w.heap.size;omega
   have GL:Hid (Kp tsF base w (w6.setCell ⟨LB,3,none⟩ (.slice wa wm wk))):=Kp.set (j:=3) G6 X6.out (by decide) L0.out.lb _
   have x7:w6.cell? ⟨LB,3,none⟩=some vw:=by rw [cell_of_row _ _ _ _ _ _ X6.out];rfl
   have y7:w6.frozen? ⟨LB,3,none⟩=false:=frozen_of_row _ _ _ _ _ X6.out
   clear hown6 hgrow6 up Y5 hlbn hlbn6 keepW x5 y5 x6 G5 G6 z5
   go_wp2_with fail
   go_ret
   exact ⟨_,_,_,rfl,GL.out,Nat.le_refl _,LN.out,KF6.out,VF.out,VW.out⟩
theorem filter_none (ad:Option Addr) (cap:Nat) (p:Value) (w:World) :
  Calls Tryz.prog 60 #[p,.slice ad 0 cap] w fun e w'=>e = .returned (.slice none 0 0)∧w'=w:=by
 go_enter Tryz.func60,Tryz.ntmps60
 go_wp2
 go_ret
 exact ⟨rfl,rfl⟩
end Go.Proofs.YtecnfgikbmcgoaaGreat
