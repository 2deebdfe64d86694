import Derived.Test.YtecnfgikbmcgoabGreatG26
set_option maxHeartbeats 8000000
set_option maxRecDepth 100000
namespace Go.Proofs.YtecnfgikbmcgoabGreat
open Go.Proofs.Tryz
open Go.RowKit
variable {D:Nat}{a0:Act}
theorem Ke(a b c d:Int)(w:World):(Op.equalIn 10000 30 (.agg #[.int .i64 a,.int .i64 b]) (.agg #[.int .i64 c,.int .i64 d])).run prog w=.ok (a==c&&b==d) w:=by have u3:=underlying3;have a3:=Tryz.isAgg3;have z3:=Tryz.sizeOf3;rw[show(10000:Nat)=9999+1 from rfl,Op.equalIn];simp only[Sem.run_bind,run_underlying underlying30,cY];simp only[Std.Legacy.Range.forIn_eq_forIn_range',Std.Legacy.Range.size,Nat.sub_zero,Nat.add_sub_cancel,Nat.div_one,List.range'_succ,List.range'_zero,List.forIn_cons,List.forIn_nil];go_simp;by_cases h1:a=c<;>by_cases h2:b=d<;>simp[h1,h2]
structure Ef0(a0:Act)(D m:Nat)(a:Act):Prop where
 df:a.defers=a0.defers
 ts:∃z:List Value,z.length=m/\a.tmps=(a0.tmps.toList.take D++z++a0.tmps.toList.drop (D+m)).toArray
theorem Ef0.start(a0:Act)(D m:Nat)(h:D+m<=a0.tmps.size):Ef0 a0 D m a0:=by
 refine⟨rfl,(a0.tmps.toList.drop D).take m,by simp;omega,?_⟩;apply Array.ext';rw[aU];have e:a0.tmps.toList.drop (D+m)=(a0.tmps.toList.drop D).drop m:=by rw[List.drop_drop]
 rw[e,dZ,dZ]
theorem Ef0.put{m:Nat}(hD:D+m<=a0.tmps.size)(a:Act)(i:Nat)(x:Value)(hi:i<m)(h:Ef0 a0 D m a):Ef0 a0 D m (a.put (some (D+i)) x):=by
 obtain⟨z,hz,ht⟩:=h.ts;have hl:(a0.tmps.toList.take D).length=D:=by simp;omega
 refine⟨h.df,z.set i x,by simpa using hz,?_⟩;simp only[Act.put,ht,List.setIfInBounds_toArray];rw[aU,fL _ _ (by omega),show D+i-(a0.tmps.toList.take D).length=i by omega,List.set_append_left _ _ (by omega),aU]
theorem Ef0.sz{m:Nat}(hD:D+m<=a0.tmps.size){a:Act}(h:Ef0 a0 D m a):a.tmps.size=a0.tmps.size:=by obtain⟨z,hz,ht⟩:=h.ts;rw[ht];simp;omega
theorem Ef0.at_{m:Nat}{a:Act}(h:Ef0 a0 D m a)(hD:D<=a0.tmps.size){t:Nat}(ht:t<D):a.eval (.tmp t)=a0.eval (.tmp t):=by
 obtain⟨z,hz,e⟩:=h.ts;rw[evn,evn,e];have hl:t<(a0.tmps.toList.take D).length:=by simp;omega
 simp only[fJ];rw[aU,cV hl,fD,if_pos ht];simp
theorem Yw{z:List Value}(h:z.length=22):∃z0 z1 z2 z3 z4 z5 z6 z7 z8 z9 z10 z11 z12 z13 z14 z15 z16 z17 z18 z19 z20 z21,z=[z0,z1,z2,z3,z4,z5,z6,z7,z8,z9,z10,z11,z12,z13,z14,z15,z16,z17,z18,z19,z20,z21]:=by
 match z,h with
 |[z0,z1,z2,z3,z4,z5,z6,z7,z8,z9,z10,z11,z12,z13,z14,z15,z16,z17,z18,z19,z20,z21],_=>exact⟨_,_,_,_,_,_,_,_,_,_,_,_,_,_,_,_,_,_,_,_,_,_,rfl⟩
structure SqC where
 TB:Nat
 g:Nat
 off:Nat
 n:Nat
 lc:Nat
 k:Nat
 v:Value
 qn:Nat
 xs:List Value
 Rv:Nat->Prop
 x13:Value
 x14:Value
 x15:Value
 x16:Value
 m0:Value
 m1:Value
 m2:Value
 m3:Value
 m4:Value
 w1:World
def Rsq(c:SqC)(j:Nat)(x:Value)(w:World):Prop:=
 match j with
 |0=>x=.pointer (some ⟨c.TB,0,none⟩)
 |1=>x=.pointer (some ⟨c.TB,0,none⟩)
 |2=>x=.pointer (some ⟨c.TB,1,none⟩)
 |3=>x=.slice (some ⟨c.g,c.off,none⟩) c.n c.lc
 |4=>x=.int .i64 c.k
 |5=>x=.pointer (some ⟨c.TB,0,none⟩)
 |6=>x=.pointer (some ⟨c.TB,0,none⟩)
 |7=>x=.pointer (some ⟨c.TB,1,none⟩)
 |8=>x=.slice (some ⟨c.g,c.off,none⟩) c.n c.lc
 |9=>x=.int .i64 c.k
 |10=>x=.pointer (some ⟨c.g,c.off+c.k*4,none⟩)
 |11=>x=.pointer (some ⟨c.g,c.off+c.k*4+2,none⟩)
 |12=>x=c.v
 |13=>x=c.x13
 |14=>x=c.x14
 |15=>x=c.x15
 |16=>x=c.x16
 |17=>x=.agg #[c.m0,c.m1,c.m2,c.m3,c.m4]
 |18=>∃g,x=.slice (some ⟨g,0,none⟩) 1 1/\c.w1.heap.size<=g/\w.heap[g]?=some (.cells #[c.m0,c.m1,c.m2,c.m3,c.m4] 152 (0,0))
 |19=>(∃a m cap,x=.slice a m cap)/\Qr w 152 5 (fun k=>x.ownBlock=some k) x (c.qn+1) (c.xs++[c.m0,c.m1,c.m2,c.m3,c.m4])/\(x.ownBlock=c.v.ownBlock\/∃k,c.w1.heap.size<=k/\x.ownBlock=some k)
 |20=>x=.pointer (some ⟨c.g,c.off+c.k*4,none⟩)
 |21=>x=.pointer (some ⟨c.g,c.off+c.k*4+2,none⟩)
 |_=>True
structure Gsq(c:SqC)(i:Nat)(wa wb:World):Prop where
 g:wa.grownBy wb c.v.ownBlock
 q:Qr wa 152 5 c.Rv c.v c.qn c.xs->Qr wb 152 5 c.Rv c.v c.qn c.xs
 r:i≠19->Gr wa wb
variable {c:SqC}
theorem Gsq.gr{i:Nat}{wa wb:World}(g:Gr wa wb):Gsq c i wa wb:=⟨⟨g.os,g.tape,g.output,g.size,fun k hk _=>g.block k hk⟩,fun h=>h.kept fun k hk hR=>⟨g.block k hk,hR⟩,fun _=>g⟩
def Wsq(c:SqC)(w:World):Prop:=c.w1.grownBy w c.v.ownBlock/\Qr w 152 5 c.Rv c.v c.qn c.xs
theorem Rsq.keep(hv:∀k,c.v.ownBlock=some k->k<c.w1.heap.size)(i j:Nat)(x:Value)(wa wb:World)(hij:i≠j)(h:Rsq c j x wa)(g:Gsq c i wa wb):Rsq c j x wb:=by
 by_cases h18:j=18
 ·subst h18;obtain⟨q,h1,h2,h3⟩:=h;exact⟨q,h1,h2,(g.g.block q (fZ h3) (fun e=>by have:=hv q e.symm;omega)).trans h3⟩
 by_cases h19:j=19
 ·subst h19;exact⟨h.1,h.2.1.kept fun k hk hR=>⟨(g.r hij).block k hk,hR⟩,h.2.2⟩
 unfold Rsq at h ⊢;split<;>first|exact h|(rename_i e;exact absurd rfl h18)|(rename_i e;exact absurd rfl h19)|trivial
end Go.Proofs.YtecnfgikbmcgoabGreat
