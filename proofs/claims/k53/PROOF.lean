
import PyProof.Rows.All
import Wide.All
import OpenK.AllK
import Wide.FinOn
import Lean
import PyProof.EqAt
import PyProof.EqKinds
import PyProof.TupleCall
import PySem.Challenge.RW_stonewalker_k53_two_ties_crossed
local macro_rules
 | `(tactic| omega) => `(tactic| lia)
set_option Elab.async false
set_option linter.all false
set_option maxRecDepth 100000
noncomputable section
namespace L2
open PySem PySem.Spec PyProof.Rows
abbrev Key:=Sum Int Str
def jY8:Key->Value->Bool
 | .inl k,v=>Value.isInt k v
 | .inr x,v=>Value.isStrOf x v
def keyH (w:World):Key->Int
 | .inl k=>hashInt k
 | .inr x=>hashStr w x
theorem jJs:∀ {k:Key} {v:Value},jY8 k v=true->(∃i t,k=Sum.inl i/\v=Value.int i t)\/(∃x t,k=Sum.inr x/\v=Value.str x t)
 | .inl i,v,h=>by
  obtain⟨t,e⟩:=Value.isInt_shape (k:=i) (v:=v) h
  exact .inl ⟨i,t,rfl,e⟩
 | .inr x,v,h=>by
  obtain⟨t,e⟩:=Value.isStrOf_shape (x:=x) (v:=v) h
  exact .inr ⟨x,t,rfl,e⟩
theorem kQx (i:Int) (t:Tok):jY8 (.inl i) (.int i t)=true:=by simp[jY8,Value.isInt]
theorem kQw (x:Str) (t:Tok):jY8 (.inr x) (.str x t)=true:=by simp[jY8,Value.isStrOf]
theorem key_ll (a b:Int):decide ((Sum.inl a:Key)=Sum.inl b)=(a == b):=by
 by_cases e:a=b
 ·subst e;simp
 ·have h:¬ (Sum.inl a:Key)=Sum.inl b:=fun q=>e (Sum.inl.inj q)
  rw[decide_eq_false h]
  exact (beq_eq_false_iff_ne.mpr e).symm
theorem key_rr (a b:Str):decide ((Sum.inr a:Key)=Sum.inr b)=decide (a=b):=by
 by_cases e:a=b
 ·subst e;simp
 ·have h:¬ (Sum.inr a:Key)=Sum.inr b:=fun q=>e (Sum.inr.inj q)
  rw[decide_eq_false h,decide_eq_false e]
theorem key_lr (a:Int) (b:Str):decide ((Sum.inl a:Key)=Sum.inr b)=false:=decide_eq_false (fun q=>nomatch q)
theorem key_rl (a:Str) (b:Int):decide ((Sum.inr a:Key)=Sum.inl b)=false:=decide_eq_false (fun q=>nomatch q)
noncomputable def jJ2 (prog:Program) (w:World):PySem.KeyKind prog w Key where
 is:=jY8
 hash:=keyH w
 inj:=fun v a b ha hb=>by
  rcases jJs ha with ⟨i,t,rfl,rfl⟩ | ⟨x,t,rfl,rfl⟩
  ·rcases jJs hb with ⟨j,u,rfl,e⟩ | ⟨y,u,rfl,e⟩
   ·injection e with e1 _;rw[e1]
   ·exact nomatch e
  ·rcases jJs hb with ⟨j,u,rfl,e⟩ | ⟨y,u,rfl,e⟩
   ·exact nomatch e
   ·injection e with e1 _;rw[e1]
 byValue:=fun k v h=>by
  rcases jJs h with ⟨i,t,rfl,rfl⟩ | ⟨x,t,rfl,rfl⟩<;>rfl
 pyHash:=fun hv h=>by
  rcases jJs hv with ⟨i,t,rfl,rfl⟩ | ⟨x,t,rfl,rfl⟩
  ·exact wpAny_pyHash_int h
  ·exact wpAny_pyHash_str h
 eqBool:=fun hu hv h=>by
  rcases jJs hu with ⟨i,t,rfl,rfl⟩ | ⟨x,t,rfl,rfl⟩
  ·rcases jJs hv with ⟨j,u,rfl,rfl⟩ | ⟨y,u,rfl,rfl⟩
   ·rw[key_ll] at h;exact wpAny_eqBool_int h
   ·rw[key_lr] at h;exact SeqAt.EqAt.int_str i t y u _ _ _ _ h
  ·rcases jJs hv with ⟨j,u,rfl,rfl⟩ | ⟨y,u,rfl,rfl⟩
   ·rw[key_rl] at h;exact SeqAt.EqAt.str_int x t j u _ _ _ _ h
   ·rw[key_rr] at h;exact wpAny_eqBool_str h
 «strs» :=fun k x t v h=>by
  rcases jJs h with ⟨i,u,rfl,e⟩ | ⟨y,u,rfl,e⟩
  ·exact nomatch e
  ·injection e with e1 _
   subst e1
   cases v<;>rfl
theorem jZ3 (prog:Program) (w:World) (i:Int) (t:Tok):(jJ2 prog w).is (.inl i) (.int i t)=true:=kQx i t
theorem jZ2 (prog:Program) (w:World) (x:Str) (t:Tok):(jJ2 prog w).is (.inr x) (.str x t)=true:=kQw x t
end L2
set_option synthInstance.maxSize 1000
namespace L2
open PySem PySem.Spec PyProof.Rows
structure KeyV (prog:Program) (w:World) (K:Type) [DecidableEq K] (c:Nat) where
 is:Heap->K->Value->Prop
 hash:K->Int
 draws:K->Nat
 inj:∀ {h:Heap} {v:Value} {x y:K},is h x v->is h y v->x=y
 keeps:∀ {h h':Heap} {k:K} {v:Value} {d:Addr} {o:Obj} {es:Array DictEntry} {ep:Nat},is h k v->h.get? d=some o->o.data= .dict es ep->Heap.SameBut d h h'->is h' k v
 hashed:∀ {A:Around} {E:Value->Shared->Prop} {s:Shared} {k:K} {v:Value} {Q:Int->Shared->Prop},A.units+c<cLine->is s.heap k v->Q (hash k) {s with toks:=s.toks+draws k}->wpAny (model prog w) A (PySem.pyHash v) Q E s
 eqAt:∀ {A:Around} {s:Shared} {x y:K} {u v:Value},A.units+c<cLine->is s.heap x u->is s.heap y v->SeqAt.EqAt A s u v (decide (x=y))
 quiet:∀ {A:Around} {E:Value->Shared->Prop} {s:Shared} {k:K} {v:Value} {Q:Bool->Shared->Prop} (n:Nat),c<=n->is s.heap k v->Q true s->wpAny (model prog w) A (eqIsQuiet n v) Q E s
noncomputable def kJ5 (prog:Program) (w:World):KeyV prog w Key 0 where
 is:=fun _ k v=>jY8 k v=true
 hash:=keyH w
 draws:=fun _=>1
 inj:=fun hx hy=>(jJ2 prog w).inj _ _ _ hx hy
 keeps:=fun x _ _ _=>x
 hashed:=fun _ hv h=>(jJ2 prog w).pyHash hv h
 eqAt:=fun _ hx hy prog' w' _ _ h=>(jJ2 prog' w').eqBool hx hy h
 quiet:=fun n _ hv h=>by rw[eqIsQuiet_byValue n ((jJ2 prog w).byValue _ _ hv)];exact wpAny_pure h
section
variable {prog:Program} {w:World} {K:Type} [DecidableEq K] {c:Nat}
inductive ItemsV (V:KeyV prog w K c) (h:Heap):List K->List Value->Prop
 | nil:ItemsV V h [] []
 | cons {k:K} {v:Value} {ks:List K} {vs:List Value}:V.is h k v->ItemsV V h ks vs->ItemsV V h (k::ks) (v::vs)
theorem ItemsV.inj {V:KeyV prog w K c} {h:Heap} {x:List K} {vs:List Value} (hx:ItemsV V h x vs):∀ {y:List K},ItemsV V h y vs->x=y:=by
 induction hx with
 | nil=>intro y hy;cases hy;rfl
 | cons a _ ih=>intro y hy;cases hy with | cons b t=>rw[V.inj a b,ih t]
theorem ItemsV.length {V:KeyV prog w K c} {h:Heap} {x:List K} {vs:List Value} (hx:ItemsV V h x vs):x.length=vs.length:=by
 induction hx with
 | nil=>rfl
 | cons _ _ ih=>simp[ih]
theorem ItemsV.get {V:KeyV prog w K c} {h:Heap} {x:List K} {vs:List Value} (hx:ItemsV V h x vs):∀ {j:Nat} {v:Value},vs[j]? =some v->∃k,x[j]? =some k/\V.is h k v:=by
 induction hx with
 | nil=>intro j v e;simp at e
 | cons a _ ih=>
  intro j v e
  cases j with
  | zero=>simp at e;subst e;exact⟨_,rfl,a⟩
  | succ j=>obtain⟨k,h1,h2⟩:=ih (j:=j) (v:=v) (by simpa using e);exact⟨k,by simpa using h1,h2⟩
theorem ItemsV.keeps {V:KeyV prog w K c} {h h':Heap} {x:List K} {vs:List Value} {d:Addr} {o:Obj} {es:Array DictEntry} {ep:Nat} (hx:ItemsV V h x vs) (ho:h.get? d=some o) (hd:o.data= .dict es ep) (hs:Heap.SameBut d h h'):ItemsV V h' x vs:=by
 induction hx with
 | nil=>exact .nil
 | cons a _ ih=>exact .cons (V.keeps a ho hd hs) ih
noncomputable def kUx (V:KeyV prog w K c) (h:Heap) (ks:List K) (v:Value):Prop:=∃(a:Addr) (o:Obj) (items:Array Value) (n:Nat),v= .ref a/\h.get? a=some o/\o.cls= .type "tuple"/\o.data= .seq items n/\ItemsV V h ks items.toList
theorem all_eq:∀(x y:List K),((List.range (min x.length y.length)).all (fun j=>decide (x[j]? =y[j]?))&&x.length == y.length)=decide (x=y):=by
 intro x y
 by_cases e:x=y
 ·subst e;simp
 ·rw[decide_eq_false e,Bool.and_eq_false_iff]
  by_cases l:x.length=y.length
  ·left
   rw[List.all_eq_false]
   have:∃j:Nat,x[j]? ≠y[j]? :=by
    apply Classical.byContradiction
    intro q
    exact e (List.ext_getElem? fun j=>Classical.byContradiction fun z=>q ⟨j,z⟩)
   obtain⟨j,hj⟩:=this
   refine⟨j,List.mem_range.mpr ?_,by simpa using hj⟩
   rcases Nat.lt_or_ge j (min x.length y.length) with z | z
   ·exact z
   ·exact absurd (by rw[List.getElem?_eq_none (by omega),List.getElem?_eq_none (by omega)]) hj
  ·right;simpa using l
noncomputable def jQ2 (V:KeyV prog w K c):KeyV prog w (List K) (c+2) where
 is:=kUx V
 hash:=fun ks=>reduceHash (Builtin.Tuple.tupleHashOf (ks.map V.hash))
 draws:=fun ks=>(ks.map V.draws).sum+1
 inj:=by
  rintro h v x y ⟨a,o,items,n,rfl,ho,_,hd,hi⟩ ⟨a',o',items',n',e,ho',_,hd',hi'⟩
  cases e
  rw[ho] at ho';cases ho'
  rw[hd] at hd';cases hd'
  exact hi.inj hi'
 keeps:=by
  rintro h h' k v d o es ep ⟨a,o',items,n,rfl,ho',hc,hd',hi⟩ ho hd hs
  have ne:a≠d:=by
   rintro rfl
   rw[ho] at ho';cases ho'
   rw[hd] at hd';cases hd'
  exact⟨a,o',items,n,rfl,(hs.2 a ne).trans ho',hc,hd',hi.keeps ho hd hs⟩
 hashed:=by
  rintro A E s ks v Q hu ⟨a,o,items,n,rfl,ho,hc,hd,hi⟩ h
  refine PySem.W.pyHash_slot (T:="tuple") ⟨o,ho,hc⟩ F.slot_tuple_hash F.entry_tuple_hash (F.args_tuple_hash_1 _) (beq_builtin_none _) (.inr (by omega)) ?_
  refine (show wpAny _ _ (Builtin.Tuple.tupleItemsOf (.ref a) >>= _) _ _ s from wpAny_bind (wpAny_tupleItemsOf ho hd (wpAny_bind ?_)))
  rw[<-Array.forIn_toList]
  refine wpAny_forIn_list _ (fun rest (b:Array Int) z=>∃done left,ks=done++left/\ItemsV V s.heap left rest/\b.toList=done.map V.hash/\z={s with toks:=s.toks+(done.map V.draws).sum}) _ ?_ ?_ _ _ ⟨[],ks,rfl,hi,rfl,rfl⟩
  ·rintro x rest b z ⟨done,left,rfl,hl,hb,rfl⟩
   cases hl with
   | @cons k _ ks' _ h1 hl'=>
    refine wpAny_bind (V.hashed (by rw[Around.in1_units];omega) h1 ?_)
    first
     | exact wpAny_pure ⟨done++[k],ks',by simp,hl',by simp[hb],(by simp[Nat.add_assoc])⟩
     | exact wpAny_bind (wpAny_pure (wpAny_pure ⟨done++[k],ks',by simp,hl',by simp[hb],(by simp[Nat.add_assoc])⟩))
  ·rintro b z ⟨done,left,rfl,hl,hb,rfl⟩
   cases hl
   rw[List.append_nil] at h
   refine (show wpAny _ _ (retInt (Builtin.Tuple.tupleHashOf b.toList)) _ _ _ from ?_)
   rw[hb]
   exact wpAny_bind (wpAny_mkInt (wpAny_pure ⟨_,_,rfl,by simpa[Nat.add_assoc] using h⟩))
 eqAt:=by
  rintro A s x y u v hu ⟨a,o,items,n,rfl,ho,hc,hd,hi⟩ ⟨a',o',items',n',rfl,ho',hc',hd',hi'⟩
  by_cases e:a=a'
  ·subst e
   rw[ho] at ho';cases ho'
   rw[hd] at hd';cases hd'
   rw[hi.inj hi',decide_eq_true rfl]
   exact SeqAt.EqAt.same _
  ·have R:=SeqAt.RcAt.tuples (A:=A) (s:=s) (l:=a) (b:=a') (e:=fun j=>decide (x[j]? =y[j]?)) ⟨o,ho,hc,n,hd⟩ ⟨o',ho',hc',n',hd'⟩ (by omega) (fun j j1 j2=> ?_)
   ·have l1:=hi.length
    have l2:=hi'.length
    rw[<-all_eq x y,l1,l2]
    have R':=SeqAt.EqAt.of_refs e R
    simpa using R'
   ·obtain⟨k,h1,h2⟩:=hi.get (j:=j) (v:=items[j]) (by simp[j1])
    obtain⟨k',h1',h2'⟩:=hi'.get (j:=j) (v:=items'[j]) (by simp[j2])
    have:=V.eqAt (A:=A.in1) (s:=s) (by rw[Around.in1_units];omega) h2 h2'
    rw[h1,h1']
    simpa using this
 quiet:=by
  rintro A E s ks v Q n hn ⟨a,o,items,m,rfl,ho,hc,hd,hi⟩ h
  obtain⟨n,rfl⟩:∃nn,n=nn+1:=⟨n-1,by omega⟩
  have hT:s.TypeIs (.ref a) "tuple":=⟨o,ho,hc⟩
  unfold eqIsQuiet;refine wpAny_bind (wpAny_specialOf hT F.slot_tuple_eq.lookup ?_)
  refine (show wpAny _ _ (isInstance (.ref a) (.type "tuple") >>= _) _ _ s from wpAny_bind (wpAny_isInstance hT isSubtype_tuple_tuple ?_))
  simp only[if_false,Bool.not_true,Bool.false_eq_true]
  refine wpAny_bind (wpAny_seqItems ho hd (wpAny_bind ?_))
  refine (show wpAny _ _ (forIn items _ _) _ _ s from ?_)
  rw[<-Array.forIn_toList]
  refine wpAny_forIn_list _ (fun rest r z=>r.1=none/\z=s/\∃left,ItemsV V s.heap left rest) _ ?_ ?_ _ _ ⟨rfl,rfl,ks,hi⟩
  ·rintro x rest r z ⟨hr,rfl,left,hl⟩
   cases hl with
   | cons h1 hl'=>
    refine wpAny_bind (V.quiet n (by omega) h1 ?_)
    simp only[if_false,Bool.not_true,Bool.false_eq_true]
    exact wpAny_pure ⟨rfl,rfl,_,hl'⟩
  ·rintro⟨r1,r2⟩ z ⟨hr,rfl,_⟩
   simp only at hr;subst hr
   exact wpAny_pure h
theorem kZk {α β:Type} [DecidableEq α] [DecidableEq β] (a b:α):decide ((Sum.inl a:α ⊕ β)=Sum.inl b)=decide (a=b):=by
 by_cases e:a=b
 ·simp[e]
 ·rw[decide_eq_false e,decide_eq_false fun z=>e (Sum.inl.inj z)]
theorem kZj {α β:Type} [DecidableEq α] [DecidableEq β] (a b:β):decide ((Sum.inr a:α ⊕ β)=Sum.inr b)=decide (a=b):=by
 by_cases e:a=b
 ·simp[e]
 ·rw[decide_eq_false e,decide_eq_false fun z=>e (Sum.inr.inj z)]
noncomputable def sumVK (V:KeyV prog w K c):KeyV prog w (Key ⊕ List K) (c+2) where
 is:=fun h k v=>match k with
  | .inl k=>jY8 k v=true
  | .inr ks=>kUx V h ks v
 hash:=fun k=>match k with
  | .inl k=>keyH w k
  | .inr ks=>(jQ2 V).hash ks
 draws:=fun k=>match k with
  | .inl _=>1
  | .inr ks=>(jQ2 V).draws ks
 inj:=by
  rintro h v (x | x) (y | y) hx hy
  ·rw[(jJ2 prog w).inj _ _ _ hx hy]
  ·obtain⟨a,_,_,_,rfl,_⟩:=hy
   rcases jJs hx with ⟨i,t,_,e⟩ | ⟨i,t,_,e⟩<;>cases e
  ·obtain⟨a,_,_,_,rfl,_⟩:=hx
   rcases jJs hy with ⟨i,t,_,e⟩ | ⟨i,t,_,e⟩<;>cases e
  ·rw[(jQ2 V).inj hx hy]
 keeps:=by
  rintro h h' (k | k) v d o es ep hx ho hd hs
  ·exact hx
  ·exact (jQ2 V).keeps hx ho hd hs
 hashed:=by
  rintro A E s (k | k) v Q hu hx h
  ·exact (jJ2 prog w).pyHash hx h
  ·exact (jQ2 V).hashed hu hx h
 eqAt:=by
  rintro A s (x | x) (y | y) u v hu hx hy
  ·rw[kZk]
   exact (kJ5 prog w).eqAt (by omega) hx hy
  ·rw[decide_eq_false fun z=>nomatch z]
   obtain⟨a,o,items,n,rfl,ho,hc,hd,_⟩:=hy
   rcases jJs hx with ⟨i,t,_,rfl⟩ | ⟨i,t,_,rfl⟩
   ·exact SeqAt.EqAt.int_tuple i t ⟨o,ho,hc,n,hd⟩ (by omega)
   ·exact SeqAt.EqAt.str_tuple i t ⟨o,ho,hc,n,hd⟩ (by omega)
  ·rw[decide_eq_false fun z=>nomatch z]
   obtain⟨a,o,items,n,rfl,ho,hc,hd,_⟩:=hx
   rcases jJs hy with ⟨i,t,_,rfl⟩ | ⟨i,t,_,rfl⟩
   ·exact SeqAt.EqAt.tuple_int i t ⟨o,ho,hc,n,hd⟩ (by omega)
   ·exact SeqAt.EqAt.tuple_str i t ⟨o,ho,hc,n,hd⟩ (by omega)
  ·rw[kZj]
   exact (jQ2 V).eqAt hu hx hy
 quiet:=by
  rintro A E s (k | k) v Q n hn hx h
  ·exact (kJ5 prog w).quiet n (Nat.zero_le _) hx h
  ·exact (jQ2 V).quiet n hn hx h
end
abbrev K1:=Key ⊕ List Key
abbrev K2:=Key ⊕ List K1
abbrev TKey:=List K2
def vk1 (prog:Program) (w:World):KeyV prog w K1 2:=sumVK (kJ5 prog w)
def vk2 (prog:Program) (w:World):KeyV prog w K2 4:=sumVK (vk1 prog w)
noncomputable def jQx (prog:Program) (w:World):HeapKind prog w TKey where
 is:=fun h ks a=>(jQ2 (vk2 prog w)).is h ks (.ref a)
 hash:=(jQ2 (vk2 prog w)).hash
 draws:=(jQ2 (vk2 prog w)).draws
 room:=fun A=>A.units+6<cLine
 inj:=fun hx hy=>(jQ2 (vk2 prog w)).inj hx hy
 keeps:=fun x ho hd hs=>(jQ2 (vk2 prog w)).keeps x ho hd hs
 pyHash:=fun hu hk h=>(jQ2 (vk2 prog w)).hashed hu hk h
 eqBool:=fun hu hx hy h=>(jQ2 (vk2 prog w)).eqAt hu hx hy _ _ _ _ h
 quiet:=fun hk h=>(jQ2 (vk2 prog w)).quiet 8 (by decide) hk h
theorem jKc {prog:Program} {w:World} {A:Around} (hu:A.units+20<cLine):(jQx prog w).room A.in1:=by
 show A.in1.units+6<cLine
 rw[Around.in1_units];omega
inductive V where
 | non | bl (b:Bool) | int (i:Int) | str (x:Str) | byt (b:Array UInt8) | flt (b:UInt64) | ref (a:Addr) | ty (n:String)
 deriving DecidableEq
noncomputable def RelV:V->Value->Prop
 | .non,u=>u=Value.none
 | .bl b,u=>u=Value.bool b
 | .int i,u=>∃t,u=Value.int i t
 | .str x,u=>∃t,u=Value.str x t
 | .byt b,u=>∃t,u=Value.bytes b t
 | .flt b,u=>∃t,u=Value.float b t
 | .ref a,u=>u=Value.ref a
 | .ty n,u=>u=Value.type n
abbrev Vals:List V->List Value->Prop:=Paired RelV
theorem Vals.length {xs:List V} {us:List Value} (r:Vals xs us):xs.length=us.length:=Paired.length r
theorem Vals.get:∀ {xs:List V} {us:List Value} {i:Nat} {x:V},Vals xs us->xs[i]? =some x->∃u,us[i]? =some u/\RelV x u
 | _,_,_,_,.nil,e=>by simp at e
 | _,_,0,_,.cons r _,e=>by simp at e;subst e;exact⟨_,rfl,r⟩
 | _,_,i+1,x,.cons _ t,e=>by
  obtain⟨u,h1,h2⟩:=Vals.get (i:=i) (x:=x) t (by simpa using e)
  exact⟨u,by simpa using h1,h2⟩
theorem Vals.set {x:V} {u:Value} (r:RelV x u):∀ {xs:List V} {us:List Value} (i:Nat),Vals xs us->Vals (xs.set i x) (us.set i u)
 | _,_,_,.nil=> .nil
 | _,_,0,.cons _ t=> .cons r t
 | _,_,i+1,.cons q t=> .cons q (Vals.set r i t)
theorem Vals.append:∀ {xs ys:List V} {us ws:List Value},Vals xs us->Vals ys ws->Vals (xs++ys) (us++ws)
 | _,_,_,_,.nil,s=>s
 | _,_,_,_,.cons r t,s=> .cons r (Vals.append t s)
theorem Vals.take:∀ {xs:List V} {us:List Value} (n:Nat),Vals xs us->Vals (xs.take n) (us.take n)
 | _,_,0,_=> .nil
 | _,_,_+1,.nil=> .nil
 | _,_,n+1,.cons r t=> .cons r (Vals.take n t)
theorem Vals.drop:∀ {xs:List V} {us:List Value} (n:Nat),Vals xs us->Vals (xs.drop n) (us.drop n)
 | _,_,0,r=>r
 | _,_,_+1,.nil=> .nil
 | _,_,n+1,.cons _ t=>Vals.drop n t
theorem Vals.none_of:∀ {xs:List V} {us:List Value} {i:Nat},Vals xs us->xs[i]? =none->us[i]? =none:=fun {xs us i} r e=>by
 have h1:=r.length
 have h2:xs.length<=i:=List.getElem?_eq_none_iff.mp e
 exact List.getElem?_eq_none_iff.mpr (by omega)
def RelO:Option V->Option Value->Prop
 | some v,some u=>RelV v u
 | none,none=>True
 | _,_=>False
def KV {κ:Type}:List (κ×V)->List (κ×Value)->Prop:=Paired fun (p:κ×V) (q:κ×Value)=>p.1=q.1/\RelV p.2 q.2
def kV:Key->V
 | .inl i=> .int i
 | .inr x=> .str x
inductive HO where
  | lst (xs:List V)
  | tup (xs:List V)
  | dK (kvs:List (Key×V)) | dT (kvs:List (TKey×V))
  | set (S:Int->Bool) (n:Nat)
  | ins (C dx:Addr) (fs:List (Str×V))
  | own (x:Addr)
  | xd (fs:List (Str×V))
  | met (f x:Addr)
  | rng (lo hi:Int)
  | frz (o:Obj) (u:HO)
  | tbl (ps:Array Value)
  | ext (φ:Heap->Prop)
abbrev Hp:=Addr->Option HO
def upd (H:Hp) (a:Addr) (o:HO):Hp:=fun b=>if b=a then some o else H b
theorem jJ1 {H:Hp} {a:Addr} {o:HO}:upd H a o a=some o:=by unfold upd;rw[if_pos rfl]
theorem jJr {H:Hp} {a b:Addr} {o:HO} (h:b≠a):upd H a o b=H b:=by unfold upd;rw[if_neg h]
theorem ne_of {H:Hp} {a b:Addr} {o u:HO} (h:H a=some o) (h':H b=some u) (d:o≠u):a≠b:=by
 intro e;subst e;rw[h] at h';exact d (Option.some.inj h')
theorem jK9 {H:Hp} {a b:Addr} {o:HO} (h:H a=some o) (h':H b=none):a≠b:=by
 intro e;subst e;rw[h] at h';cases h'
def Rk1 (H:Hp) (k:K1) (v:V):Prop:=match k with
 | .inl k=>v=kV k
 | .inr ks=>∃p vs,v= .ref p/\H p=some (.tup vs)/\Paired (fun k v=>v=kV k) ks vs
def Rk2 (H:Hp) (k:K2) (v:V):Prop:=match k with
 | .inl k=>v=kV k
 | .inr ks=>∃p vs,v= .ref p/\H p=some (.tup vs)/\Paired (Rk1 H) ks vs
def TKeyAt (H:Hp) (ks:TKey) (a:Addr):Prop:=∃vs,H a=some (.tup vs)/\Paired (Rk2 H) ks vs
theorem jQ8 {α β:Type} {F G:α->β->Prop} (f:∀a b,F a b->G a b):∀ {l:List α} {m:List β},Paired F l m->Paired G l m
 | _,_,.nil=> .nil
 | _,_,.cons r t=> .cons (f _ _ r) (jQ8 f t)
theorem Rk1.mono {H H':Hp} (ht:∀b ys,H b=some (.tup ys)->H' b=some (.tup ys)) (k:K1) (v:V) (r:Rk1 H k v):Rk1 H' k v:=by
 cases k with
 | inl k=>exact r
 | inr ks=>obtain⟨p,vs,e,h,t⟩:=r;exact⟨p,vs,e,ht _ _ h,t⟩
theorem Rk2.mono {H H':Hp} (ht:∀b ys,H b=some (.tup ys)->H' b=some (.tup ys)) (k:K2) (v:V) (r:Rk2 H k v):Rk2 H' k v:=by
 cases k with
 | inl k=>exact r
 | inr ks=>obtain⟨p,vs,e,h,t⟩:=r;exact⟨p,vs,e,ht _ _ h,jQ8 (Rk1.mono ht) t⟩
theorem TKeyAt.mono {H H':Hp} {ks:TKey} {a:Addr} (r:TKeyAt H ks a) (ht:∀b ys,H b=some (.tup ys)->H' b=some (.tup ys)):TKeyAt H' ks a:=by
 obtain⟨vs,h,t⟩:=r;exact⟨vs,ht _ _ h,jQ8 (Rk2.mono ht) t⟩
section
variable (P:Program) (w:World)
def TupD (h:Heap) (a:Addr) (items:Array Value):Prop:=∃o,h.get? a=some o/\o.cls= .type "tuple"/\∃n,o.data= .seq items n/\o.dict=none
theorem TupD.is {h:Heap} {a:Addr} {items:Array Value} (x:TupD h a items):IsTup h a items:=let ⟨o,e,c,n,d,_⟩:=x;⟨o,e,c,n,d⟩
theorem TupD.new (h:Heap) (items:Array Value):TupD (h.push {cls:= .type "tuple",data:= .seq items}) h.objs.size items:=⟨_,Heap.get?_push_size _ rfl,rfl,_,rfl,rfl⟩
noncomputable def ObjOk (H:Hp) (h:Heap) (a:Addr):HO->Prop
 | .lst xs=>xs.length<=sizeLine/\∃(its:List Value) (n:Nat),Vals xs its/\h.get? a=some {cls:= .type "list",data:= .seq its.toArray n}
 | .tup xs=>xs.length<=sizeLine/\∃its:List Value,Vals xs its/\TupD h a its.toArray
 | .dK kvs=>kvs.length<=sizeLine/\(a == sysModules)=false/\∃vs,KV kvs vs/\h.DictOf (jJ2 P w) a vs
 | .dT kvs=>kvs.length<=sizeLine/\(a == sysModules)=false/\∃xs:List (TKey×Addr×Value),
   Paired (fun (p:TKey×V) (q:TKey×Addr×Value)=>p.1=q.1/\TKeyAt H p.1 q.2.1/\RelV p.2 q.2.2) kvs xs/\
   ∃o es ep,h.get? a=some o/\o.ExactDict/\o.data= .dict es ep/\es.toList=xs.map (entryOfKey (jQx P w))/\(xs.map (·.1)).Nodup
 | .set S n=>h.SetOf (intKind P w) a S n
 | .ins C dx fs=>H dx=some (.own a)/\fs.length<=1000/\dx≠a/\h.get? a=some (PySem.W.instObj C dx)/\
   ∃mA,h.Ns1 dx mA/\(∀f,RelO (fs.lookup f) (mA f))/\PySem.Within mA (fs.map (·.1))
 | .own _=>∃o,h.get? a=some o
 | .xd fs=>∃mA,h.Ns1 a mA/\∀f,RelO (fs.lookup f) (mA f)
 | .rng lo hi=>∃t u v,h.get? a=some {cls:= .type "range",data:= .fields #[.int lo t,.int hi u,.int 1 v]}
 | .frz o u=>h.get? a=some o/\ObjOk H h a u
 | .tbl ps=>h.get? a=some {cls:= .none,data:= .fields ps}
 | .met f x=>h.get? a=some (PySem.W.methodObj (.ref f) (.ref x))
 | .ext φ=>φ h/\(∃o,h.get? a=some o)/\∀h1 h2:Heap,φ h1->(∀o,h1.get? a=some o->h2.get? a=some o)->φ h2
def HOk (H:Hp) (h:Heap):Prop:=∀a o,H a=some o->ObjOk P w H h a o
end
section
variable {P:Program} {w:World} {H H':Hp} {h h':Heap} {a:Addr} {o:HO}
theorem ObjOk.lt (x:ObjOk P w H h a o):a<h.objs.size:=by
 cases o with
 | lst xs=>obtain⟨_,_,_,_,e⟩:=x;exact Heap.lt_size e
 | tup xs=>obtain⟨_,_,_,p⟩:=x;exact p.is.lt
 | dK kvs=>obtain⟨_,_,_,_,o,_,_,e,_⟩:=x;exact Heap.lt_size e
 | dT kvs=>obtain⟨_,_,_,_,o,_,_,e,_⟩:=x;exact Heap.lt_size e
 | set S n=>obtain⟨o,_,_,_,e,_⟩:=x;exact Heap.lt_size e
 | ins C dx fs=>obtain⟨_,_,_,e,_⟩:=x;exact Heap.lt_size e
 | own y=>obtain⟨_,e⟩:=x;exact Heap.lt_size e
 | xd fs=>obtain⟨_,⟨_,_,_,e,_⟩,_⟩:=x;exact Heap.lt_size e
 | rng lo hi=>obtain⟨_,_,_,e⟩:=x;exact Heap.lt_size e
 | frz ob u=>obtain⟨e,_⟩:=x;exact Heap.lt_size e
 | tbl ps=>exact Heap.lt_size (show h.get? a=some _ from x)
 | met f y=>exact Heap.lt_size (show h.get? a=some _ from x)
 | ext φ=>obtain⟨_,⟨_,e⟩,_⟩:=x;exact Heap.lt_size e
theorem Paired.mapP {α β:Type} {F G:α->β->Prop}:∀ {l₁:List α} {l₂:List β},Paired F l₁ l₂->(∀a b,F a b->G a b)->Paired G l₁ l₂
 | _,_,.nil,_=> .nil
 | _,_,.cons r t,f=> .cons (f _ _ r) (Paired.mapP t f)
theorem ObjOk.stay (x:ObjOk P w H h a o) (k:∀b u,(b=a\/H b=some (.own a))->h.get? b=some u->h'.get? b=some u)
  (ho:∀b,H b=some (.own a)->H' b=some (.own a)) (ht:∀b xs,H b=some (.tup xs)->H' b=some (.tup xs)):ObjOk P w H' h' a o:=by
 induction o with
 | lst xs=>obtain⟨z,its,n,r,e⟩:=x;exact⟨z,its,n,r,k _ _ (.inl rfl) e⟩
 | tup xs=>obtain⟨z,its,r,ob,e,c⟩:=x;exact⟨z,its,r,ob,k _ _ (.inl rfl) e,c⟩
 | dK kvs=>obtain⟨z,y,vs,r,ob,es,ep,e,c⟩:=x;exact⟨z,y,vs,r,ob,es,ep,k _ _ (.inl rfl) e,c⟩
 | dT kvs=>
  obtain⟨z,y,xs,r,ob,es,ep,e,c⟩:=x
  exact⟨z,y,xs,Paired.mapP r fun p q z=>⟨z.1,z.2.1.mono ht,z.2.2⟩,ob,es,ep,k _ _ (.inl rfl) e,c⟩
 | set S n=>obtain⟨ob,es,ep,t,e,c⟩:=x;exact⟨ob,es,ep,t,k _ _ (.inl rfl) e,c⟩
 | ins C dx fs=>
  obtain⟨d,z,ne,e,mA,⟨od,es,ep,e2,c⟩,r⟩:=x
  exact⟨ho _ d,z,ne,k _ _ (.inl rfl) e,mA,⟨od,es,ep,k _ _ (.inr d) e2,c⟩,r⟩
 | own y=>obtain⟨ob,e⟩:=x;exact⟨ob,k _ _ (.inl rfl) e⟩
 | xd fs=>obtain⟨mA,⟨od,es,ep,e,c⟩,r⟩:=x;exact⟨mA,⟨od,es,ep,k _ _ (.inl rfl) e,c⟩,r⟩
 | rng lo hi=>obtain⟨t,u,v,e⟩:=x;exact⟨t,u,v,k _ _ (.inl rfl) e⟩
 | frz ob u ih=>obtain⟨e,q⟩:=x;exact⟨k _ _ (.inl rfl) e,ih q⟩
 | tbl ps=>
  have e:h.get? a=some {cls:= .none,data:= .fields ps}:=x
  show h'.get? a=some {cls:= .none,data:= .fields ps}
  exact k a _ (.inl rfl) e
 | met f y=>
  have e:h.get? a=some (PySem.W.methodObj (.ref f) (.ref y)):=x
  show h'.get? a=some (PySem.W.methodObj (.ref f) (.ref y))
  exact k a _ (.inl rfl) e
 | ext φ=>obtain⟨p,⟨o,e⟩,st⟩:=x;exact⟨st _ _ p fun o q=>k _ _ (.inl rfl) q,⟨o,k _ _ (.inl rfl) e⟩,st⟩
theorem HOk.lt (x:HOk P w H h) (e:H a=some o):a<h.objs.size:=(x a o e).lt
theorem HOk.fresh (x:HOk P w H h) (e:h.objs.size<=a):H a=none:=by
 cases q:H a with
 | none=>rfl
 | some u=>exact absurd (Nat.lt_of_lt_of_le (x.lt q) e) (Nat.lt_irrefl _)
theorem HOk.kept (x:HOk P w H h) (k:∀b u,h.get? b=some u->h'.get? b=some u):HOk P w H h':=fun a o e=>
 (x a o e).stay (fun b u _ q=>k b u q) (fun _ q=>q) fun _ _ q=>q
theorem HOk.laid (x:HOk P w H h) (k:∀b u,h.get? b=some u->h'.get? b=some u) (hp:h.objs.size<=a) (new:ObjOk P w (upd H a o) h' a o):HOk P w (upd H a o) h':=fun b u e=>by
 have hn:=x.fresh hp
 by_cases hb:b=a
 ·subst hb;rw[jJ1] at e;cases e;exact new
 ·rw[jJr hb] at e
  exact (x b u e).stay (fun c v _ q=>k c v q) (fun c q=>by rw[jJr (jK9 q hn)];exact q) fun c xs q=>by rw[jJr (jK9 q hn)];exact q
end
def Rd (H:Hp) (a:Addr) (u:HO):Prop:=H a=some u\/∃o,H a=some (.frz o u)
theorem Rd.ok {P:Program} {w:World} {H:Hp} {h:Heap} {a:Addr} {u:HO} (r:Rd H a u) (x:HOk P w H h):ObjOk P w H h a u:=by
 rcases r with r | ⟨o,r⟩
 ·exact x a u r
 ·obtain⟨_,q⟩:=x a _ r
  exact q
def Mut:Option HO->Prop
 | some (.lst _)=>True
 | some (.dK _)=>True
 | some (.dT _)=>True
 | some (.set _ _)=>True
 | some (.ins _ _ _)=>True
 | some (.ext _)=>True
 | _=>False
section
variable {P:Program} {w:World} {H:Hp} {h h':Heap} {x e:Addr} {o':HO}
theorem HOk.write (ok:HOk P w H h) (mu:Mut (H x)) (he:e=x\/H e=some (.own x)) (k:∀b u,b≠e->h.get? b=some u->h'.get? b=some u) (heo:∃u,h'.get? e=some u)
  (new:ObjOk P w (upd H x o') h' x o'):HOk P w (upd H x o') h':=fun b u q=>by
 have nown:∀c y,H c=some (.own y)->c≠x:=fun c y r z=>by subst z;rw[r] at mu;exact mu
 have ntup:∀c xs,H c=some (.tup xs)->c≠x:=fun c xs r z=>by subst z;rw[r] at mu;exact mu
 by_cases hb:b=x
 ·subst hb;rw[jJ1] at q;cases q;exact new
 ·rw[jJr hb] at q
  by_cases hbe:b=e
  ·have q':H b=some (.own x):=by
    rcases he with z | z
    ·exact absurd (hbe.trans z) hb
    ·rw[hbe];exact z
   rw[q] at q';cases q'
   obtain⟨v,hv⟩:=heo
   exact⟨v,by rw[hbe];exact hv⟩
  ·refine (ok b u q).stay (fun c v hc r=>k c v ?_ r) (fun c r=>by rw[jJr (nown c b r)];exact r) fun c xs r=>by rw[jJr (ntup c xs r)];exact r
   rcases hc with rfl | hc
   ·exact hbe
   ·rintro rfl
    rcases he with z | z
    ·exact nown c b hc z
    ·rw[hc] at z;cases z;exact hb rfl
end
structure Un (fs ex:List Addr) (H H':Hp) (h h':Heap):Prop where
 keep:∀b o,h.get? b=some o->H b=none->b∉fs->b∉ex->h'.get? b=some o
 slot:∀b o,h.get? b=some o->H b=none->b∈fs->b∉ex->∃sl,h'.get? b=some {o with slots:=sl}
 free:∀b o,h.get? b=some o->H b=none->b∉ex->H' b=none
 there:∀b o,h.get? b=some o->b∉ex->∃o',h'.get? b=some o'
 tups:∀b xs,H b=some (.tup xs)->H' b=some (.tup xs)
 frzs:∀b o u,H b=some (.frz o u)->H' b=some (.frz o u)
 tbls:∀b ps,H b=some (.tbl ps)->∃more,H' b=some (.tbl (ps++more))
section
variable {fs fs' ex ex':List Addr} {H H1 H2:Hp} {h h1 h2 h':Heap} {a x e:Addr} {o:HO}
theorem Un.any (u:Un fs ex H H1 h h1) {b:Addr} {ob:Obj} (q:h.get? b=some ob) (n:H b=none) (hx:b∉ex):∃sl,h1.get? b=some {ob with slots:=sl}:=by
 by_cases hb:b∈fs
 ·exact u.slot b ob q n hb hx
 ·exact⟨ob.slots,u.keep b ob q n hb hx⟩
theorem Un.kept (k:∀b u,h.get? b=some u->h'.get? b=some u):Un fs ex H H h h':=
 ⟨fun b ob q _ _ _=>k b ob q,fun b ob q _ _ _=>⟨ob.slots,k b ob q⟩,fun _ _ _ n _=>n,fun b ob q _=>⟨ob,k b ob q⟩,fun _ _ q=>q,fun _ _ _ q=>q,fun _ ps q=>⟨#[],by rw[q];simp⟩⟩
theorem Un.refl:Un fs ex H H h h:=Un.kept fun _ _ q=>q
theorem Un.laid (k:∀b u,h.get? b=some u->h'.get? b=some u) (hp:h.objs.size<=a) (hn:H a=none):Un fs ex H (upd H a o) h h' where
 keep:=fun b u q _ _ _=>k b u q
 slot:=fun b u q _ _ _=>⟨u.slots,k b u q⟩
 free:=fun b u q n _=>by rw[jJr (Nat.ne_of_lt (Nat.lt_of_lt_of_le (Heap.lt_size q) hp))];exact n
 there:=fun b u q _=>⟨u,k b u q⟩
 tups:=fun b xs q=>by rw[jJr (jK9 q hn)];exact q
 frzs:=fun b u xs q=>by rw[jJr (jK9 q hn)];exact q
 tbls:=fun b ps q=>⟨#[],by rw[jJr (jK9 q hn),q];simp⟩
theorem Un.write (mu:Mut (H x)) (he:e=x\/H e=some (.own x)) (k:∀b u,b≠e->h.get? b=some u->h'.get? b=some u) (heo:∃u,h'.get? e=some u):Un fs ex H (upd H x o) h h':=by
 have hx:∀b,H b=none->b≠x:=fun b n z=>by subst z;rw[n] at mu;exact mu
 have hb:∀b,H b=none->b≠e:=fun b n z=>by
  subst z
  rcases he with r | r
  ·exact hx b n r
  ·rw[n] at r;cases r
 have hm:∀b u,H b=some u->¬ Mut (some u)->b≠x:=fun b u q nm z=>by subst z;rw[q] at mu;exact nm mu
 refine⟨fun b u q n _ _=>k b u (hb b n) q,fun b u q n _ _=>⟨u.slots,k b u (hb b n) q⟩,fun b u q n _=>by rw[jJr (hx b n)];exact n,fun b u q _=> ?_,
  fun b xs q=>by rw[jJr (hm b _ q fun z=>z)];exact q,fun b u xs q=>by rw[jJr (hm b _ q fun z=>z)];exact q,fun b ps q=>⟨#[],by rw[jJr (hm b _ q fun z=>z),q];simp⟩⟩
 by_cases hbe:b=e
 ·subst hbe;exact heo
 ·exact⟨u,k b u hbe q⟩
end
def trk (h:Heap) (H:Hp):List Addr:=(List.range h.objs.size).filter fun a=>(H a).isSome
def hidT (h:Heap) (H:Hp):Heap:=PySem.W.hideAll h (trk h H)
theorem kQ3 (h:Heap) (H:Hp):(hidT h H).objs.size=h.objs.size:=PySem.W.hideAll_size _ _
theorem kV9 {h:Heap} {H:Hp} {b:Addr} {o:Obj} (e:h.get? b=some o) (n:H b=none):(hidT h H).get? b=some o:=
 PySem.W.hideAll_get _ e fun hm=>by
  have q:(H b).isSome=true:=(List.mem_filter.mp hm).2
  rw[n] at q;simp at q
theorem kYr {h:Heap} {H:Hp} {b:Addr} {o:Obj} (e:(hidT h H).get? b=some o):h.get? b=some o/\H b=none:=by
 have e':h.get? b=some o:=PySem.W.of_hideAll (trk h H) e
 refine⟨e',?_⟩
 cases q:H b with
 | none=>rfl
 | some x=>
  have hm:b∈trk h H:=List.mem_filter.mpr ⟨List.mem_range.mpr (Heap.lt_size e'),by simp[q]⟩
  have z:(hidT h H).get? b=none:=PySem.W.hideAll_none (trk h H) hm
  rw[z] at e;cases e
def kZs (g h:Heap) (L:Addr):List (Addr×Obj):=(List.range h.objs.size).filterMap fun a=>if a=L\/(g.get? a).isSome=true then none else (h.get? a).map fun o=>(a,o)
def rest (g h:Heap) (L d:Addr):List (Addr×Obj):=(kZs g h L).filter fun p=>decide (p.1≠d)
structure Mod (K:PySem.W.Frag) (mg:Str->Option Value) (base:Heap):Prop where
 kin:K.In base
 glob:base.Ns mainGlobals mg
 blt:∃mb,base.Ns builtinsNs mb/\∀x:Str,x≠"__name__"->mb x=bootBuiltins x
 nolimit:base.NoLimit
structure Cx where
 prog:Program
 w:World
 K:PySem.W.Frag
 mg:Str->Option Value
 base:Heap
 A:Around
 N:List Str
 s₀:Shared
 H₀:Hp
 env:Env
 outer:List Env
 stack:List Env
 ex:List Addr
 fn:Str->Bool
 calm:Bool
 pn:List (Addr×Obj)
 xe:Value->Shared->Prop
def frs (l:List Env):List Addr:=l.filterMap (·.frame)
abbrev Cx.fs (X:Cx):List Addr:=frs X.outer
def Vis (sc:Scope) (x:Str):Prop:=sc.names.lookup x=some .local\/sc.names.lookup x=some .cell\/sc.names.lookup x=some .free
def Loc (sc:Scope) (x:Str):Prop:=sc.names.lookup x=some .local\/sc.names.lookup x=some .cell
noncomputable def Look (env:Env) (h:Heap) (m:Str->Option Value) (x:Str) (u:Value):Prop:=
 (env.kindOf x=some .local/\m x=some u)\/((env.kindOf x=some .cell\/env.kindOf x=some .free)/\∃c,env.cells.lookup x=some c/\h.IsCell c (some u))
structure Cx.Ok (X:Cx):Prop where
 mod:Mod X.K X.mg X.base
 kind:X.env.scope.kind= .function
 glob:X.env.globals=mainGlobals
 blt:X.env.builtins=builtinsNs
 above:X.s₀.heap.objs.size<=X.env.locals
 inj:∀x y c,X.env.cells.lookup x=some c->X.env.cells.lookup y=some c->x=y
 has:∀x,(X.env.kindOf x=some .cell\/X.env.kindOf x=some .free)->∃c,X.env.cells.lookup x=some c
 cab:∀x c,X.fn x=true->X.env.cells.lookup x=some c->X.s₀.heap.objs.size<=c
 hd:X.calm=true->X.A.handled=none
 gd:X.calm=true->X.A.guards=some []
 frames:X.A.frames=some X.stack
 stk:X.stack=X.outer\/(X.stack=X.env::X.outer/\X.env.frame=some X.env.locals)
 exf:∀b∈X.ex,b≠X.env.locals/\∀x c,X.env.cells.lookup x=some c->c≠b
 bs:∀b o,X.base.get? b=some o->X.s₀.heap.get? b=some o/\X.H₀ b=none
 bsz:X.base.objs.size<=X.s₀.heap.objs.size
 noex:∀b o,X.base.get? b=some o->b∉X.ex
 exfs:∀b∈X.ex,b∉X.fs
 funs:X.s₀.heap.FunFrames X.base X.outer
 frf:∀b∈X.fs,X.H₀ b=none
structure Inv (X:Cx) (pins:List (Addr×Obj)) (σ:List (Option V)) (H:Hp) (s:Shared):Prop where
 ok:X.Ok
 os:s.os=X.s₀.os
 bare:AllBare s.gens
 base:Un X.fs X.ex X.H₀ H X.s₀.heap s.heap
 loc:∃m,s.heap.Ns X.env.locals m/\∀(i:Nat) (x:Str) (v:V),X.N[i]? =some x->σ[i]? =some (some v)->Vis X.env.scope x->∃u,RelV v u/\Look X.env s.heap m x u
 cell:∀x c,X.env.cells.lookup x=some c->∃v,s.heap.IsCell c v
 free:H X.env.locals=none
 freeC:∀x c,X.env.cells.lookup x=some c->H c=none
 pin:∀p∈X.pn++pins,s.heap.get? p.1=some p.2/\H p.1=none/\p.1≠X.env.locals/\p.1∉X.fs/\∀v,p.2.data≠ .cell v
 hok:HOk X.prog X.w H s.heap
 len:σ.length=X.N.length
section
variable {X:Cx} {pins:List (Addr×Obj)} {σ:List (Option V)} {H H':Hp} {s:Shared} {h':Heap}
theorem Cx.Ok.nofr (ok:X.Ok) {b:Addr} {o:Obj} (e:X.base.get? b=some o):b∉X.fs:=fun hb=>by
 have:=(ok.funs.mem hb).1
 rw[e] at this;cases this
theorem Inv.bs (I:Inv X pins σ H s):∀b o,X.base.get? b=some o->s.heap.get? b=some o/\H b=none:=fun b o e=>
 ⟨I.base.keep b o (I.ok.bs b o e).1 (I.ok.bs b o e).2 (I.ok.nofr e) (I.ok.noex b o e),I.base.free b o (I.ok.bs b o e).1 (I.ok.bs b o e).2 (I.ok.noex b o e)⟩
theorem Inv.bk (I:Inv X pins σ H s):∀b o,X.base.get? b=some o->s.heap.get? b=some o:=fun b o e=>(I.bs b o e).1
theorem Inv.mod (I:Inv X pins σ H s):Mod X.K X.mg X.base:=I.ok.mod
theorem Inv.kIn (I:Inv X pins σ H s):X.K.In s.heap:=I.ok.mod.kin.keeps I.bk
theorem Inv.lt (I:Inv X pins σ H s):X.env.locals<s.heap.objs.size:=let ⟨_,hn,_⟩:=I.loc;hn.lt
theorem Inv.sz (I:Inv X pins σ H s):X.s₀.heap.objs.size<=s.heap.objs.size:=Nat.le_trans I.ok.above (Nat.le_of_lt I.lt)
theorem Inv.nofs (I:Inv X pins σ H s) {a:Addr} (h:s.heap.objs.size<=a):a∉X.fs:=fun hb=>by
 obtain⟨_,o,ho,_⟩:=I.ok.funs.mem hb
 exact absurd (Nat.lt_of_lt_of_le (Heap.lt_size ho) (Nat.le_trans I.sz h)) (Nat.lt_irrefl _)
theorem Inv.cne (I:Inv X pins σ H s):∀x c,X.env.cells.lookup x=some c->c≠X.env.locals:=fun x c e z=>by
 obtain⟨v,o,ho,hd⟩:=I.cell x c e
 obtain⟨m,⟨o',es,ep,ho',hd',_⟩,_⟩:=I.loc
 rw[z,ho'] at ho;cases ho;rw[hd'] at hd;cases hd
theorem Inv.funs (I:Inv X pins σ H s):s.heap.FunFrames X.base X.outer:=by
 have all:∀(l:List Env),(∀b∈frs l,b∈X.fs)->X.s₀.heap.FunFrames X.base l->s.heap.FunFrames X.base l:=by
  intro l
  induction l with
  | nil=>intro _ _;trivial
  | cons env r ih=>
   intro hs hl
   obtain⟨hk,⟨L,o,hf,hn,ho,hd⟩,hr⟩:=hl
   have hL:L∈X.fs:=hs L (by unfold frs;rw[List.filterMap_cons,hf];exact List.mem_cons_self)
   obtain⟨sl,e⟩:=I.base.slot L o ho (I.ok.frf L hL) hL fun z=>I.ok.exfs L z hL
   exact⟨hk,⟨L,_,hf,hn,e,hd⟩,ih (fun b hb=>hs b (by unfold frs;rw[List.filterMap_cons,hf];exact List.mem_cons_of_mem _ hb)) hr⟩
 exact all X.outer (fun _ hb=>hb) I.ok.funs
theorem Inv.stack (I:Inv X pins σ H s):s.heap.FunFrames X.base X.stack:=by
 rcases I.ok.stk with e | ⟨e,hf⟩
 ·rw[e];exact I.funs
 ·rw[e]
  obtain⟨m,hn,_⟩:=I.loc
  refine .cons (by rw[I.ok.kind];decide) hf hn ?_ I.funs
  exact Heap.get?_none_of_le (Nat.le_trans I.ok.bsz I.ok.above)
theorem Inv.stkSub (I:Inv X pins σ H s):∀b∈frs X.stack,b∈X.env.locals::X.fs:=fun b hb=>by
 rcases I.ok.stk with e | ⟨e,hf⟩
 ·rw[e] at hb;exact List.mem_cons_of_mem _ hb
 ·rw[e] at hb
  unfold frs at hb
  rw[List.filterMap_cons,hf] at hb
  exact hb
theorem Inv.stkFree (I:Inv X pins σ H s):∀b∈frs X.stack,H b=none:=fun b hb=>by
 rcases List.mem_cons.mp (I.stkSub b hb) with e | hb
 ·rw[e];exact I.free
 ·obtain⟨_,o,ho,_⟩:=I.ok.funs.mem hb
  exact I.base.free b o ho (I.ok.frf b hb) fun z=>I.ok.exfs b z hb
theorem Inv.step {g':Array GenState} {t':Nat} {d':Drawn} {ch:List Addr} (I:Inv X pins σ H s)
  (hch:∀b∈ch,(b∈X.ex\/X.s₀.heap.objs.size<=b)/\b≠X.env.locals/\(∀x c,X.env.cells.lookup x=some c->c≠b)/\∀p∈X.pn++pins,p.1≠b)
  (keep:∀b o,b≠X.env.locals->b∉X.fs->b∉ch->s.heap.get? b=some o->H b=none->h'.get? b=some o)
  (slot:∀b o,b≠X.env.locals->b∈X.fs->b∉ch->s.heap.get? b=some o->H b=none->∃sl,h'.get? b=some {o with slots:=sl}) (free:∀b o,b∉ch->s.heap.get? b=some o->H b=none->H' b=none)
  (there:∀b o,b∉ch->s.heap.get? b=some o->∃o',h'.get? b=some o')
  (tups:∀b xs,H b=some (.tup xs)->H' b=some (.tup xs)) (frzs:∀b o u,H b=some (.frz o u)->H' b=some (.frz o u)) (tbls:∀b ps,H b=some (.tbl ps)->∃more,H' b=some (.tbl (ps++more)))
  (ns:∀m,s.heap.Ns X.env.locals m->h'.Ns X.env.locals m) (hok:HOk X.prog X.w H' h') (hg:AllBare g'):
  Inv X pins σ H' {s with heap:=h',gens:=g',drawn:=d',toks:=t'}:=by
 have neL:∀b o,X.s₀.heap.get? b=some o->b≠X.env.locals:=fun b o e=>Nat.ne_of_lt (Nat.lt_of_lt_of_le (Heap.lt_size e) I.ok.above)
 have neC:∀b o,X.s₀.heap.get? b=some o->b∉X.ex->b∉ch:=fun b o e hx hb=>by
  rcases (hch b hb).1 with z | z
  ·exact hx z
  ·exact absurd (Nat.lt_of_lt_of_le (Heap.lt_size e) z) (Nat.lt_irrefl _)
 have cellK:∀x c,X.env.cells.lookup x=some c->∀v,s.heap.IsCell c v->h'.IsCell c v:=fun x c e v ⟨o,ho,hd⟩=>by
  have nch:c∉ch:=fun z=>(hch c z).2.2.1 x c e rfl
  by_cases hc:c∈X.fs
  ·obtain⟨sl,q⟩:=slot c o (I.cne x c e) hc nch ho (I.freeC x c e)
   exact⟨_,q,hd⟩
  ·exact⟨o,keep c o (I.cne x c e) hc nch ho (I.freeC x c e),hd⟩
 refine⟨I.ok,I.os,hg,⟨fun b o e n hb hx=> ?_,fun b o e n hb hx=> ?_,fun b o e n hx=> ?_,fun b o e hx=> ?_,fun b xs e=>tups b xs (I.base.tups b xs e),fun b o xs e=>frzs b o xs (I.base.frzs b o xs e),fun b ps e=> ?_⟩,?_,fun x c e=> ?_,?_,fun x c e=> ?_,fun p hp=> ?_,hok,I.len⟩
 ·exact keep b o (neL b o e) hb (neC b o e hx) (I.base.keep b o e n hb hx) (I.base.free b o e n hx)
 ·obtain⟨sl,e1⟩:=I.base.slot b o e n hb hx
  obtain⟨sl',e2⟩:=slot b _ (neL b o e) hb (neC b o e hx) e1 (I.base.free b o e n hx)
  exact⟨sl',e2⟩
 ·obtain⟨o',e1⟩:=I.base.there b o e hx
  exact free b o' (neC b o e hx) e1 (I.base.free b o e n hx)
 ·obtain⟨o',e1⟩:=I.base.there b o e hx
  exact there b o' (neC b o e hx) e1
 ·obtain⟨m1,e1⟩:=I.base.tbls b ps e
  obtain⟨m2,e2⟩:=tbls b _ e1
  exact⟨m1++m2,by rw[e2,Array.append_assoc]⟩
 ·obtain⟨m,hn,hl⟩:=I.loc
  refine⟨m,ns m hn,fun i x v e1 e2 e3=> ?_⟩
  obtain⟨u,r,l⟩:=hl i x v e1 e2 e3
  refine⟨u,r,?_⟩
  rcases l with l | ⟨k,c,e,z⟩
  ·exact .inl l
  ·exact .inr ⟨k,c,e,cellK x c e _ z⟩
 ·obtain⟨v,z⟩:=I.cell x c e
  exact⟨v,cellK x c e v z⟩
 ·obtain⟨m,⟨o,_,_,ho,_⟩,_⟩:=I.loc
  exact free _ o (fun z=>(hch _ z).2.1 rfl) ho I.free
 ·obtain⟨v,o,ho,hd⟩:=I.cell x c e
  exact free c o (fun z=>(hch c z).2.2.1 x c e rfl) ho (I.freeC x c e)
 ·obtain⟨e,n,ne,nf,d⟩:=I.pin p hp
  have nch:p.1∉ch:=fun z=>(hch p.1 z).2.2.2 p hp rfl
  exact⟨keep p.1 p.2 ne nf nch e n,free p.1 p.2 nch e n,ne,nf,d⟩
theorem Inv.un {t':Nat} (I:Inv X pins σ H s) (u:Un X.fs [] H H' s.heap h') (hok:HOk X.prog X.w H' h'):Inv X pins σ H' {s with heap:=h',toks:=t'}:=by
 obtain⟨m,⟨o,es,ep,ho,r⟩,_⟩:=id I.loc
 obtain⟨sl,hL⟩:=u.any ho I.free (by simp)
 exact I.step (g':=s.gens) (d':=s.drawn) (ch:=[]) (fun _ z=>nomatch z) (fun b o _ hb _ e n=>u.keep b o e n hb (by simp)) (fun b o _ hb _ e n=>u.slot b o e n hb (by simp)) (fun b o _ e n=>u.free b o e n (by simp)) (fun b o _ e=>u.there b o e (by simp)) u.tups u.frzs u.tbls (fun m' hm=>by
  obtain⟨o',es',ep',ho',r'⟩:=hm
  rw[ho] at ho';cases ho'
  exact⟨_,es',ep',hL,r'⟩) hok I.bare
theorem Inv.call {g':Array GenState} {t':Nat} {d':Drawn} {ch:List Addr} (I:Inv X pins σ H s) (u:Un (frs X.stack) ch H H' s.heap h') (hok:HOk X.prog X.w H' h') (hg:AllBare g')
  (hch:∀b∈ch,(b∈X.ex\/X.s₀.heap.objs.size<=b)/\b≠X.env.locals/\(∀x c,X.env.cells.lookup x=some c->c≠b)/\∀p∈X.pn++pins,p.1≠b):
  Inv X pins σ H' {s with heap:=h',gens:=g',drawn:=d',toks:=t'}:=by
 obtain⟨m,⟨o,es,ep,ho,r⟩,_⟩:=id I.loc
 obtain⟨sl,hL⟩:=u.any ho I.free fun z=>(hch _ z).2.1 rfl
 exact I.step (ch:=ch) hch (fun b o hL hb hc e n=>u.keep b o e n (fun z=>(List.mem_cons.mp (I.stkSub b z)).elim hL hb) hc) (fun b o _ _ hc e n=>u.any e n hc) (fun b o hc e n=>u.free b o e n hc) (fun b o hc e=>u.there b o e hc) u.tups u.frzs u.tbls (fun m' hm=>by
  obtain⟨o',es',ep',ho',r'⟩:=hm
  rw[ho] at ho';cases ho'
  exact⟨_,es',ep',hL,r'⟩) hok hg
theorem Inv.turned {t':Nat} {it:Addr} (I:Inv X pins σ H s) (k:∀b o,b≠it->s.heap.get? b=some o->h'.get? b=some o) (hn:H it=none) (hL:it≠X.env.locals)
  (h1:it∈X.ex\/X.s₀.heap.objs.size<=it) (h2:∀x c,X.env.cells.lookup x=some c->c≠it) (h3:∀p∈X.pn++pins,p.1≠it):Inv X pins σ H {s with heap:=h',toks:=t'}:=by
 have nit:∀b u,H b=some u->b≠it:=fun b u e z=>by rw[z,hn] at e;cases e
 refine I.step (g':=s.gens) (d':=s.drawn) (ch:=[it]) (fun b hb=> ?_) (fun b o _ _ hc e _=>k b o (fun z=>hc (by simp[z])) e) (fun b o _ _ hc e _=>⟨o.slots,k b o (fun z=>hc (by simp[z])) e⟩) (fun _ _ _ _ n=>n)
  (fun b o hc e=>⟨o,k b o (fun z=>hc (by simp[z])) e⟩) (fun _ _ e=>e) (fun _ _ _ e=>e) (fun b ps e=>⟨#[],by rw[e];simp⟩) (fun m hm=> ?_) (fun b u e=> ?_) I.bare
 ·have e:b=it:=by simpa using hb
  subst e
  exact⟨h1,hL,h2,h3⟩
 ·obtain⟨o,es,ep,ho,r⟩:=hm
  exact⟨o,es,ep,k _ o (Ne.symm hL) ho,r⟩
 ·refine (I.hok b u e).stay (fun c v hc q=>k c v ?_ q) (fun _ q=>q) fun _ _ q=>q
  rcases hc with z | z
  ·rw[z];exact nit b u e
  ·exact nit c _ z
theorem Inv.tok (I:Inv X pins σ H s) (t:Nat):Inv X pins σ H {s with toks:=t}:=I.un (h':=s.heap) (t':=t) Un.refl I.hok
theorem Inv.kept {t':Nat} (I:Inv X pins σ H s) (k:∀b u,s.heap.get? b=some u->h'.get? b=some u):Inv X pins σ H {s with heap:=h',toks:=t'}:=I.un (Un.kept k) (I.hok.kept k)
theorem Inv.laid {a:Addr} {o:HO} {t':Nat} (I:Inv X pins σ H s) (k:∀b u,s.heap.get? b=some u->h'.get? b=some u) (hp:s.heap.objs.size<=a) (new:ObjOk X.prog X.w (upd H a o) h' a o):
  Inv X pins σ (upd H a o) {s with heap:=h',toks:=t'}:=I.un (Un.laid k hp (I.hok.fresh hp)) (I.hok.laid k hp new)
theorem Inv.write {x e:Addr} {o:HO} {t':Nat} (I:Inv X pins σ H s) (mu:Mut (H x)) (he:e=x\/H e=some (.own x)) (k:∀b u,b≠e->s.heap.get? b=some u->h'.get? b=some u) (heo:∃u,h'.get? e=some u)
  (new:ObjOk X.prog X.w (upd H x o) h' x o):Inv X pins σ (upd H x o) {s with heap:=h',toks:=t'}:=I.un (Un.write mu he k heo) (I.hok.write mu he k heo new)
theorem Inv.weak {σ':List (Option V)} (I:Inv X pins σ H s) (hl:σ'.length=σ.length) (w:∀(i:Nat) v,σ'[i]? =some (some v)->σ[i]? =some (some v)):Inv X pins σ' H s:=
 ⟨I.ok,I.os,I.bare,I.base,let ⟨m,hn,hl'⟩:=I.loc;⟨m,hn,fun i x v e1 e2 e3=>hl' i x v e1 (w i v e2) e3⟩,I.cell,I.free,I.freeC,I.pin,I.hok,hl.trans I.len⟩
theorem Inv.pins_of {pins':List (Addr×Obj)} (I:Inv X pins σ H s) (h:∀p∈pins',s.heap.get? p.1=some p.2/\H p.1=none/\p.1≠X.env.locals/\p.1∉X.fs/\∀v,p.2.data≠ .cell v):Inv X pins' σ H s:=
 ⟨I.ok,I.os,I.bare,I.base,I.loc,I.cell,I.free,I.freeC,fun p hp=>(List.mem_append.mp hp).elim (fun z=>I.pin p (List.mem_append_left _ z)) (h p),I.hok,I.len⟩
theorem jYi {N:List Str} (hN:N.Nodup) {i j:Nat} {x:Str} (a:N[i]? =some x) (b:N[j]? =some x):i=j:=by
 obtain⟨h1,e1⟩:=List.getElem?_eq_some_iff.mp a
 obtain⟨h2,e2⟩:=List.getElem?_eq_some_iff.mp b
 exact (List.getElem_inj hN).mp (e1.trans e2.symm)
theorem kK2 {M:Model} {A:Around} {E:Value->Shared->Prop} {i:Nat} {x:Str} {v:V} {u:Value} {Q:Unit->Shared->Prop} (I:Inv X pins σ H s) (hN:X.N.Nodup) (hi:X.N[i]? =some x) (hx:Loc X.env.scope x) (r:RelV v u)
  (h:∀s',Inv X pins (σ.set i (some v)) H s'->(∃a,Heap.SameBut a s.heap s'.heap/\(a=X.env.locals\/X.env.cells.lookup x=some a))->Q () s') (hf:X.fn x=true\/X.env.scope.names.lookup x=some .local:=by first | exact .inl rfl | exact .inr rfl | assumption):wpAny M A (storeName X.env x u) Q E s:=by
 obtain⟨m,hn,hl⟩:=id I.loc
 have hcls:(X.env.scope.kind == .class||(X.env.scope.kind == .module&&X.env.locals != X.env.globals))=false:=by rw[I.ok.kind];rfl
 have hiσ:i<σ.length:=by rw[I.len];exact (List.getElem?_eq_some_iff.mp hi).1
 have cne:=I.cne
 have tracked:∀ {a:Addr} {h':Heap},(∃o,s.heap.get? a=some o/\H a=none)->Heap.SameBut a s.heap h'->HOk X.prog X.w H h':=fun {a h'} ha hs b ob e=>by
  obtain⟨_,_,hfree⟩:=ha
  refine (I.hok b ob e).stay (fun c w' hc q=>(hs.2 c ?_).trans q) (fun _ q=>q) fun _ _ q=>q
  rintro rfl
  rcases hc with rfl | hc
  ·rw[hfree] at e;cases e
  ·rw[hfree] at hc;cases hc
 rcases hx with hk | hk
 ·refine wpAny_storeName_local hk hn (fun h' hn' hs=> ?_) hcls
  obtain⟨oL,_,_,hoL,_⟩:=id hn
  refine h _ ⟨I.ok,I.os,I.bare,⟨fun b o e n hb hx=> ?_,fun b o e n hb hx=> ?_,I.base.free,fun b o e hx=> ?_,I.base.tups,I.base.frzs,I.base.tbls⟩,⟨_,hn',fun j y v' e1 e2 e3=> ?_⟩,fun y c e=> ?_,I.free,I.freeC,fun p hp=> ?_,tracked ⟨oL,hoL,I.free⟩ hs,by simpa using I.len⟩ ⟨_,hs,.inl rfl⟩
  ·exact (hs.2 b (Nat.ne_of_lt (Nat.lt_of_lt_of_le (Heap.lt_size e) I.ok.above))).trans (I.base.keep b o e n hb hx)
  ·obtain⟨sl,e1⟩:=I.base.slot b o e n hb hx
   exact⟨sl,(hs.2 b (Nat.ne_of_lt (Nat.lt_of_lt_of_le (Heap.lt_size e) I.ok.above))).trans e1⟩
  ·obtain⟨o',e1⟩:=I.base.there b o e hx
   exact⟨o',(hs.2 b (Nat.ne_of_lt (Nat.lt_of_lt_of_le (Heap.lt_size e) I.ok.above))).trans e1⟩
  ·by_cases hj:j=i
   ·subst hj
    rw[hi] at e1;cases e1
    rw[List.getElem?_set_self hiσ] at e2
    cases e2
    exact⟨u,r,.inl ⟨hk,by simp⟩⟩
   ·rw[List.getElem?_set_ne (Ne.symm hj)] at e2
    obtain⟨u',r',q⟩:=hl j y v' e1 e2 e3
    refine⟨u',r',?_⟩
    rcases q with ⟨k,e⟩ | ⟨k,c,e,z⟩
    ·refine .inl ⟨k,?_⟩
     have:y≠x:=fun e=>hj (jYi hN e1 (e▸hi))
     simp[this,e]
    ·exact .inr ⟨k,c,e,z.sameBut hs (cne y c e)⟩
  ·obtain⟨w',z⟩:=I.cell y c e
   exact⟨w',z.sameBut hs (cne y c e)⟩
  ·obtain⟨e,n,ne,nf,d⟩:=I.pin p hp
   exact⟨(hs.2 p.1 ne).trans e,n,ne,nf,d⟩
 ·have hfn:X.fn x=true:=by
   rcases hf with z | z
   ·exact z
   ·rw[z] at hk;cases hk
  obtain⟨c,hc⟩:=I.ok.has x (.inl hk)
  obtain⟨w',z⟩:=I.cell x c hc
  refine wpAny_storeName_cell I.ok.kind hk hc z (fun h' hc' hs=> ?_)
  obtain⟨oc,hoc,hocd⟩:=id z
  refine h {s with heap:=h'} ⟨I.ok,I.os,I.bare,⟨fun b o e n hb hx=> ?_,fun b o e n hb hx=> ?_,I.base.free,fun b o e hx=> ?_,I.base.tups,I.base.frzs,I.base.tbls⟩,⟨m,hn.sameBut hs (Ne.symm (cne x c hc)),fun j y v' e1 e2 e3=> ?_⟩,fun y c' e=> ?_,I.free,I.freeC,fun p hp=> ?_,tracked ⟨oc,hoc,I.freeC x c hc⟩ hs,by simpa using I.len⟩ ⟨c,hs,.inr hc⟩
  ·exact (hs.2 b (Nat.ne_of_lt (Nat.lt_of_lt_of_le (Heap.lt_size e) (I.ok.cab x c hfn hc)))).trans (I.base.keep b o e n hb hx)
  ·obtain⟨sl,e1⟩:=I.base.slot b o e n hb hx
   exact⟨sl,(hs.2 b (Nat.ne_of_lt (Nat.lt_of_lt_of_le (Heap.lt_size e) (I.ok.cab x c hfn hc)))).trans e1⟩
  ·obtain⟨o',e1⟩:=I.base.there b o e hx
   exact⟨o',(hs.2 b (Nat.ne_of_lt (Nat.lt_of_lt_of_le (Heap.lt_size e) (I.ok.cab x c hfn hc)))).trans e1⟩
  ·by_cases hj:j=i
   ·subst hj
    rw[hi] at e1;cases e1
    rw[List.getElem?_set_self hiσ] at e2
    cases e2
    exact⟨u,r,.inr ⟨.inl hk,c,hc,hc'⟩⟩
   ·rw[List.getElem?_set_ne (Ne.symm hj)] at e2
    obtain⟨u',r',q⟩:=hl j y v' e1 e2 e3
    refine⟨u',r',?_⟩
    rcases q with q | ⟨k,c',e,z'⟩
    ·exact .inl q
    ·refine .inr ⟨k,c',e,z'.sameBut hs ?_⟩
     rintro rfl
     exact hj (jYi hN e1 (I.ok.inj _ _ _ e hc▸hi))
  ·by_cases hcc:c'=c
   ·subst hcc;exact⟨_,hc'⟩
   ·obtain⟨w2,z2⟩:=I.cell y c' e
    exact⟨w2,z2.sameBut hs hcc⟩
  ·obtain⟨e,n,ne,nf,d⟩:=I.pin p hp
   refine⟨(hs.2 p.1 ?_).trans e,n,ne,nf,d⟩
   intro q
   rw[q,hoc] at e
   have q':oc=p.2:=Option.some.inj e
   exact d w' (by rw[<-q'];exact hocd)
theorem jK0 {M:Model} {A:Around} {E:Value->Shared->Prop} {i:Nat} {x:Str} {v:V} {u:Value} {Q:Unit->Shared->Prop} (I:Inv X pins σ H s) (hN:X.N.Nodup) (hi:X.N[i]? =some x) (hx:Loc X.env.scope x) (r:RelV v u)
  (h:∀s',Inv X pins (σ.set i (some v)) H s'->Q () s') (hf:X.fn x=true\/X.env.scope.names.lookup x=some .local:=by first | exact .inl rfl | exact .inr rfl | assumption):wpAny M A (storeName X.env x u) Q E s:=
 kK2 I hN hi hx r (fun s' I' _=>h s' I') hf
theorem Inv.call' {s':Shared} {ch:List Addr} (I:Inv X pins σ H s) (ho:s'.os=s.os) (u:Un (frs X.stack) ch H H' s.heap s'.heap) (hok:HOk X.prog X.w H' s'.heap) (hg:AllBare s'.gens)
  (hch:∀b∈ch,(b∈X.ex\/X.s₀.heap.objs.size<=b)/\b≠X.env.locals/\(∀x c,X.env.cells.lookup x=some c->c≠b)/\∀p∈X.pn++pins,p.1≠b):Inv X pins σ H' s':=by
 obtain⟨h',g',d',t',o'⟩:=s'
 have e:o'=s.os:=ho
 subst e
 exact I.call (g':=g') (t':=t') (d':=d') u hok hg hch
end
abbrev XK:=Value->Option Addr->Hp->Prop
abbrev St:=List (Option V)
abbrev VK:=V->Hp->Prop
abbrev TE:=St->Hp->VK->Prop
abbrev TT:=St->Hp->(Bool->Hp->Prop)->Prop
abbrev TA:=St->Hp->(List V->Hp->Prop)->Prop
structure Ends where
 nx:St->Hp->Prop
 rt:VK
 bk:St->Hp->Prop:=fun _ _=>False
 ct:St->Hp->Prop:=fun _ _=>False
abbrev TS:=Ends->St->Hp->Prop
def EP (X:Cx) (pins:List (Addr×Obj)) (σ:St) (Q:VK) (u:Value) (s':Shared):Prop:=∃v H',Inv X pins σ H' s'/\RelV v u/\Q v H'
def TP (X:Cx) (pins:List (Addr×Obj)) (σ:St) (Q:Bool->Hp->Prop) (b:Bool) (s':Shared):Prop:=∃H',Inv X pins σ H' s'/\Q b H'
noncomputable def SP (X:Cx) (pins:List (Addr×Obj)) (D:Ends) (f:Flow) (s':Shared):Prop:=
 match f with
 | .next=>∃ σ' H',Inv X pins σ' H' s'/\D.nx σ' H'
 | .brk=>∃ σ' H',Inv X pins σ' H' s'/\D.bk σ' H'
 | .cont=>∃ σ' H',Inv X pins σ' H' s'/\D.ct σ' H'
 | .ret u=>∃v σ' H',Inv X pins σ' H' s'/\RelV v u/\D.rt v H'
noncomputable def PE (X:Cx) (e:Expr) (t:TE):Prop:=
 ∀(pins:List (Addr×Obj)) (s:Shared) (σ:St) (H:Hp) (Q:VK),Inv X pins σ H s->t σ H Q->wpAny (model X.prog X.w) X.A (eval e X.env) (EP X pins σ Q) X.xe s
noncomputable def PSs (X:Cx) (st:List Stmt) (t:TS):Prop:=
 ∀(pins:List (Addr×Obj)) (s:Shared) (σ:St) (H:Hp) (D:Ends),Inv X pins σ H s->t D σ H->wpAny (model X.prog X.w) X.A (execs st X.env) (SP X pins D) X.xe s
theorem thn {α:Type} {t:Sem α} {Q Q':α->Shared->Prop} {M:Model} {A:Around} {E:Value->Shared->Prop} {s:Shared} (h:wpAny M A t Q E s) (hQ:∀a s,Q a s->Q' a s):wpAny M A t Q' E s:=wpAny_mono h hQ fun _ _ x=>x
section
variable {X:Cx}
def tVar (i:Nat):TE:=fun σ H Q=>∃v,σ[i]? =some (some v)/\Q v H
def tC (v:V):TE:=fun _ H Q=>Q v H
theorem pe_var {i:Nat} {x:Str} {pos:Pos} (hN:X.N[i]? =some x) (hv:Vis X.env.scope x) (hd:(x == ("__debug__":Str))=false:=by decide) (hcd:(x == ("__classdict__":Str))=false:=by decide):PE X (.Name x pos) (tVar i):=by
 intro pins s σ H Q I h
 obtain⟨v,e,h⟩:=h
 obtain⟨m,hn,hl⟩:=I.loc
 obtain⟨u,r,l⟩:=hl i x v hN e hv
 have fin:EP X pins σ Q u s:=⟨v,H,I,r,h⟩
 rcases l with ⟨hk,hm⟩ | ⟨hk,c,hc,hcell⟩
 ·exact wpAny_Name (wpAny_loadName_local I.ok.kind hk hn hm fin) hd
 ·rcases hk with hk | hk
  ·exact wpAny_Name (wpAny_loadName_cell I.ok.kind hk hc hcell fin) hd
  ·exact wpAny_Name (wpAny_loadName_free I.ok.kind hk hc hcell fin hcd) hd
theorem pe_int {i j pos}:PE X (.Constant (.int i) j pos) (tC (.int i)):=fun _ _ _ H _ I h=>wpAny_Constant_int ⟨.int i,H,I.tok _,⟨_,rfl⟩,h⟩
theorem pe_bl {b j pos}:PE X (.Constant (.bool b) j pos) (tC (.bl b)):=fun _ _ _ H _ I h=>Constant_bool ⟨.bl b,H,I,rfl,h⟩
theorem pe_non {j pos}:PE X (.Constant .none j pos) (tC .non):=fun _ _ _ H _ I h=>Constant_none ⟨.non,H,I,rfl,h⟩
theorem pe_str {x j pos}:PE X (.Constant (.str x) j pos) (tC (.str x)):=fun _ _ _ H _ I h=>Calls.Constant_str ⟨.str x,H,I.tok _,⟨_,rfl⟩,h⟩
def Gl (X:Cx) (x:Str):Prop:=X.env.kindOf x=some .globalImplicit
theorem jV8 {E:Value->Shared->Prop} {pins:List (Addr×Obj)} {s:Shared} {σ:St} {H:Hp} {x:Str} {u:Value} {pos:Pos} {Q:Value->Shared->Prop} (I:Inv X pins σ H s) (hg:Gl X x) (hm:X.mg x=some u) (h:Q u s)
  (hd:(x == ("__debug__":Str))=false:=by decide):wpAny (model X.prog X.w) X.A (eval (.Name x pos) X.env) Q E s:=
 Calls.Name_function_global I.ok.kind hg (Calls.loadGlobal_global (by rw[I.ok.glob];exact I.mod.glob.keeps I.bk) hm h) hd
theorem jUf {E:Value->Shared->Prop} {pins:List (Addr×Obj)} {s:Shared} {σ:St} {H:Hp} {x:Str} {u:Value} {pos:Pos} {Q:Value->Shared->Prop} (I:Inv X pins σ H s) (hg:Gl X x) (hm:X.mg x=none) (hv:bootBuiltins x=some u) (h:Q u s)
  (hn:x≠"__name__":=by decide) (hd:(x == ("__debug__":Str))=false:=by decide):wpAny (model X.prog X.w) X.A (eval (.Name x pos) X.env) Q E s:=by
 obtain⟨mb,h1,h2⟩:=I.mod.blt
 exact Calls.Name_function_global I.ok.kind hg (Calls.loadGlobal_builtin (by rw[I.ok.glob];exact I.mod.glob.keeps I.bk) hm (by rw[I.ok.blt];exact h1.keeps I.bk) ((h2 x hn).trans hv) h) hd
theorem kYl {x:Str} {v:V} {u:Value} {pos:Pos} (hg:Gl X x) (hm:X.mg x=none) (hv:bootBuiltins x=some u) (r:RelV v u) (hn:x≠"__name__":=by decide) (hd:(x == ("__debug__":Str))=false:=by decide):PE X (.Name x pos) (tC v):=
 fun _ _ _ H _ I h=>jUf I hg hm hv ⟨v,H,I,r,h⟩ hn hd
variable {a b:Expr} {ta tb:TE} {pos:Pos}
def tB (t:TE):TT:=fun σ H Q=>t σ H fun x H1=>∃c,x= .bl c/\Q c H1
variable {tA tB':TT} {rest:List Expr}
def tAnd (t u:TT):TT:=fun σ H Q=>t σ H fun c H1=>if c=true then u σ H1 Q else Q false H1
def tOrV (ta tb:TE):TE:=fun σ H Q=>ta σ H fun x H1=>∃c,x= .bl c/\if c=true then Q (.bl true) H1 else tb σ H1 Q
def tNotV (ta:TE):TE:=fun σ H Q=>ta σ H fun x H1=>∃c,x= .bl c/\Q (.bl (!c)) H1
end
noncomputable def SqL (K:PySem.W.Frag) (H:Hp) (a:Addr) (xs:List V):Prop:=
 Rd H a (.lst xs)\/
  ∃(o:Obj) (its:Array Value) (n:Nat),K.lookup a=some o/\o.cls= .type "list"/\o.dict=none/\o.data= .seq its n/\its.size<=sizeLine/\Vals xs its.toList
noncomputable def SqT (K:PySem.W.Frag) (H:Hp) (a:Addr) (xs:List V):Prop:=
 Rd H a (.tup xs)\/
  ∃(o:Obj) (its:Array Value) (n:Nat),K.lookup a=some o/\o.cls= .type "tuple"/\o.data= .seq its n/\its.size<=sizeLine/\Vals xs its.toList
noncomputable def absV:Value->Option V
 | .none=>some .non
 | .bool b=>some (.bl b)
 | .int i _=>some (.int i)
 | .str x _=>some (.str x)
 | .bytes b _=>some (.byt b)
 | .float b _=>some (.flt b)
 | .ref a=>some (.ref a)
 | .type n=>some (.ty n)
 | _=>none
theorem RelV.abs {x:V} {u:Value} (r:RelV x u):absV u=some x:=by
 cases x with
 | non=>cases r;rfl
 | bl _=>cases r;rfl
 | int _=>obtain⟨t,rfl⟩:=r;rfl
 | str _=>obtain⟨t,rfl⟩:=r;rfl
 | byt _=>obtain⟨t,rfl⟩:=r;rfl
 | flt _=>obtain⟨t,rfl⟩:=r;rfl
 | ref _=>cases r;rfl
 | ty _=>cases r;rfl
theorem RelV.inj {x y:V} {u:Value} (r:RelV x u) (q:RelV y u):x=y:=Option.some.inj (r.abs.symm.trans q.abs)
theorem Vals.inj {xs ys:List V} {us:List Value} (h:Vals xs us) (g:Vals ys us):xs=ys:=by
 induction h generalizing ys with
 | nil=>(cases g;rfl)
 | cons r _ ih=>(cases g with | cons r' t'=>rw[r.inj r',ih t'])
section
variable {X:Cx} {pins:List (Addr×Obj)} {σ:St} {H:Hp} {s:Shared} {a:Addr} {xs ys:List V}
theorem SqL.of {K:PySem.W.Frag} (h:H a=some (.lst xs)):SqL K H a xs:= .inl (.inl h)
theorem SqT.of {K:PySem.W.Frag} (h:H a=some (.tup xs)):SqT K H a xs:= .inl (.inl h)
theorem Inv.list (I:Inv X pins σ H s) (h:SqL X.K H a xs):∃its:List Value,Vals xs its/\PlainL s.heap a its.toArray/\xs.length<=sizeLine:=by
 rcases h with h | ⟨o,its,n,hk,hc,hd,hs,hz,r⟩
 ·obtain⟨z,its,n,r,e⟩:=h.ok I.hok
  exact⟨its,r,⟨_,n,e,rfl,rfl,rfl⟩,z⟩
 ·refine⟨its.toList,r,⟨o,n,I.kIn a o hk,hc,hd,by simpa using hs⟩,?_⟩
  have e:=r.length
  simp only[Array.length_toList] at e
  omega
theorem Inv.tuple (I:Inv X pins σ H s) (h:SqT X.K H a xs):∃its:List Value,Vals xs its/\IsTup s.heap a its.toArray/\xs.length<=sizeLine:=by
 rcases h with h | ⟨o,its,n,hk,hc,hs,hz,r⟩
 ·obtain⟨z,its,r,p⟩:=h.ok I.hok
  exact⟨its,r,p.is,z⟩
 ·refine⟨its.toList,r,⟨o,I.kIn a o hk,hc,n,by simpa using hs⟩,?_⟩
  have e:=r.length
  simp only[Array.length_toList] at e
  omega
theorem Inv.list_inj (I:Inv X pins σ H s) (h:SqL X.K H a xs) (h':SqL X.K H a ys):xs=ys:=by
 obtain⟨its,r,⟨o,n,e,_,_,d⟩,_⟩:=I.list h
 obtain⟨its',r',⟨o',n',e',_,_,d'⟩,_⟩:=I.list h'
 rw[e] at e';cases e'
 rw[d] at d'
 injection d' with d1 _
 have:its=its':=by simpa using congrArg Array.toList d1
 subst this
 exact r.inj r'
theorem Inv.tuple_inj (I:Inv X pins σ H s) (h:SqT X.K H a xs) (h':SqT X.K H a ys):xs=ys:=by
 obtain⟨its,r,⟨o,e,_,n,d⟩,_⟩:=I.tuple h
 obtain⟨its',r',⟨o',e',_,n',d'⟩,_⟩:=I.tuple h'
 rw[e] at e';cases e'
 rw[d] at d'
 injection d' with d1 _
 have:its=its':=by simpa using congrArg Array.toList d1
 subst this
 exact r.inj r'
end
abbrev Cx.wish (X:Cx) (E:Value->Shared->Prop):Cx:={X with xe:=E}
abbrev Cx.nox (X:Cx):Cx:=X.wish fun _ _=>False
theorem Cx.Ok.wish {X:Cx} (ok:X.Ok) (E:Value->Shared->Prop):(X.wish E).Ok:=
 ⟨ok.mod,ok.kind,ok.glob,ok.blt,ok.above,ok.inj,ok.has,ok.cab,ok.hd,ok.gd,ok.frames,ok.stk,ok.exf,ok.bs,ok.bsz,ok.noex,ok.exfs,ok.funs,ok.frf⟩
theorem Cx.Ok.unwish {X:Cx} {E:Value->Shared->Prop} (ok:(X.wish E).Ok):X.Ok:=
 ⟨ok.mod,ok.kind,ok.glob,ok.blt,ok.above,ok.inj,ok.has,ok.cab,ok.hd,ok.gd,ok.frames,ok.stk,ok.exf,ok.bs,ok.bsz,ok.noex,ok.exfs,ok.funs,ok.frf⟩
section
variable {X:Cx} {pins:List (Addr×Obj)} {σ:St} {H:Hp} {s:Shared} {E:Value->Shared->Prop}
theorem Inv.wish (I:Inv X pins σ H s) (E:Value->Shared->Prop):Inv (X.wish E) pins σ H s:=⟨I.ok.wish E,I.os,I.bare,I.base,I.loc,I.cell,I.free,I.freeC,I.pin,I.hok,I.len⟩
theorem Inv.unwish (I:Inv (X.wish E) pins σ H s):Inv X pins σ H s:=⟨I.ok.unwish,I.os,I.bare,I.base,I.loc,I.cell,I.free,I.freeC,I.pin,I.hok,I.len⟩
theorem SP.unwish {D:Ends} {f:Flow} {s':Shared} (h:SP (X.wish E) pins D f s'):SP X pins D f s':=by
 cases f with
 | next=>obtain⟨σ',H',I,q⟩:=h;exact⟨σ',H',I.unwish,q⟩
 | brk=>obtain⟨σ',H',I,q⟩:=h;exact⟨σ',H',I.unwish,q⟩
 | cont=>obtain⟨σ',H',I,q⟩:=h;exact⟨σ',H',I.unwish,q⟩
 | ret u=>obtain⟨v,σ',H',I,r,q⟩:=h;exact⟨v,σ',H',I.unwish,r,q⟩
theorem PSs.nox {st:List Stmt} {t:TS} (h:PSs X.nox st t):PSs X st t:=fun pins s σ H D I hw=>
 wpAny_mono (h pins s σ H D (I.wish _) hw) (fun _ _ q=>q.unwish) fun _ _ z=>False.elim z
end
section
variable {X:Cx} {st:Stmt} {rest:List Stmt} {t u:TS} {e:Expr} {te:TE} {pos:Pos}
theorem Inv.quiet {pins:List (Addr×Obj)} {σ:St} {H:Hp} {s:Shared} (I:Inv X pins σ H s):interactive X.env=false:=by simp[interactive,I.ok.kind]
def tRetN:TS:=fun D _ H=>D.rt .non H
end
abbrev TSet:=V->V->V->Hp->(Hp->Prop)->Prop
noncomputable def PSet (X:Cx) (t:TSet):Prop:=
 ∀(pins:List (Addr×Obj)) (s:Shared) (σ:St) (H:Hp) (o i v:V) (ov iv u:Value) (Q:Hp->Prop),Inv X pins σ H s->RelV o ov->RelV i iv->RelV v u->t o i v H Q->
  wpAny (model X.prog X.w) X.A (setItem ov iv u) (fun _ s'=>∃H',Inv X pins σ H' s'/\Q H') X.xe s
section
variable {X:Cx} {pos:Pos}
end
section
variable {X:Cx} {pos:Pos}
end
structure It where
 go:Nat->Hp->Prop
 yld:Nat->Hp->V->Hp->Prop
 stop:Nat->Hp->Prop
noncomputable def FpOk (X:Cx) (pins:List (Addr×Obj)) (H:Hp) (b:Addr):Prop:=
 H b=none/\b≠X.env.locals/\b∉X.fs/\(b∈X.ex\/X.s₀.heap.objs.size<=b)/\(∀x c,X.env.cells.lookup x=some c->c≠b)/\∀p∈X.pn++pins,p.1≠b
theorem Inv.fpOk {X:Cx} {pins:List (Addr×Obj)} {σ:St} {H H':Hp} {s:Shared} {b:Addr} (I:Inv X pins σ H s) (hb:s.heap.objs.size<=b) (hn:H' b=none):FpOk X pins H' b:=by
 refine⟨hn,Nat.ne_of_gt (Nat.lt_of_lt_of_le I.lt hb),I.nofs hb,.inr (Nat.le_trans I.sz hb),fun x c e z=> ?_,fun p hp z=> ?_⟩
 ·obtain⟨v,q⟩:=I.cell x c e
  exact absurd (Nat.lt_of_lt_of_le q.lt (by rw[z];exact hb)) (Nat.lt_irrefl _)
 ·exact absurd (Nat.lt_of_lt_of_le (Heap.lt_size (I.pin p hp).1) (by rw[z];exact hb)) (Nat.lt_irrefl _)
structure Turn (P:Program) (w:World) (K:PySem.W.Frag) (tg:Expr) (J:It) (fp:List Addr) (it:Addr) (tn:Nat->Heap->Prop):Prop where
 mem:it∈fp
 obj:∀i h,tn i h->∀b∈fp,∃o,h.get? b=some o/\∀v,o.data≠ .cell v
 keep:∀i h h',tn i h->(∀b∈fp,∀o,h.get? b=some o->h'.get? b=some o)->tn i h'
 item:∀(X:Cx),X.prog=P->X.w=w->X.K=K->X.calm=true->∀(i:Nat) (pins:List (Addr×Obj)) (s:Shared) (σ:St) (H:Hp) (E:Value->Shared->Prop),Inv X pins σ H s->(∀b∈fp,FpOk X pins H b)->tn i s.heap->J.go i H->
  wpAny (model P w) X.A (pyNext (.ref it)) (fun r s1=>∃u,r=some u/\
   wpAny (model P w) X.A (letOwnedTupleGo tg (.ref it) u) (fun _ s2=>∃x H',Inv X pins σ H' s2/\RelV x u/\J.yld i H x H'/\tn (i+1) s2.heap/\∀b∈fp,H' b=none) E s1) E s
 done:∀(X:Cx),X.prog=P->X.w=w->X.K=K->X.calm=true->∀(i:Nat) (pins:List (Addr×Obj)) (s:Shared) (σ:St) (H:Hp) (E:Value->Shared->Prop),Inv X pins σ H s->(∀b∈fp,FpOk X pins H b)->tn i s.heap->J.stop i H->
  wpAny (model P w) X.A (pyNext (.ref it)) (fun r s1=>r=none/\Inv X pins σ H s1) E s
 self:∀(A:Around) (i:Nat) (s:Shared) (Q:Value->Shared->Prop) (E:Value->Shared->Prop),tn i s.heap->Q (.ref it) s->wpAny (model P w) A (pyIter (.ref it)) Q E s
abbrev TI:=St->Hp->(It->Hp->Prop)->Prop
noncomputable def PIE (X:Cx) (pins:List (Addr×Obj)) (σ:St) (tg:Expr) (R:It->Hp->Prop) (itv:Value) (s2:Shared):Prop:=
 ∃(it:Addr) (fp:List Addr) (tn:Nat->Heap->Prop) (J:It) (H':Hp),itv= .ref it/\Inv X pins σ H' s2/\Turn X.prog X.w X.K tg J fp it tn/\tn 0 s2.heap/\(∀b∈fp,FpOk X pins H' b)/\R J H'
theorem kZc {M:Model} {A:Around} {E:Value->Shared->Prop} {s:Shared} {tg:Expr} {it:Addr} {u:Value} {o:Obj} {n:String} {vs:Array Value} {Q:Unit->Shared->Prop} (ho:s.heap.get? it=some o) (hc:o.cls= .type n) (hd:o.data= .fields vs)
  (hn:["enumerate","zip","dict_itemiterator","dict_reverseitemiterator","odict_iterator","itertools.zip_longest","itertools.pairwise"].contains n=false) (hQ:Q () s):wpAny M A (letOwnedTupleGo tg (.ref it) u) Q E s:=by
 unfold letOwnedTupleGo
 cases tg<;>first
  | exact wpAny_pure hQ
  | (cases u<;>first
    | exact wpAny_pure hQ
    | (refine wpAny_bind (wpAny_load ho ?_)
       rw[hc,hd]
       show wpAny M A (if (["enumerate","zip","dict_itemiterator","dict_reverseitemiterator","odict_iterator","itertools.zip_longest","itertools.pairwise"].contains n&&vs[0]? == some (rawInt _))=true then _ else _) Q E s
       rw[if_neg (by intro h;rw[hn,Bool.false_and] at h;cases h)]
       exact wpAny_pure hQ))
noncomputable def Itl (K:PySem.W.Frag) (a:Addr):It:=
 ⟨fun i H=>∃xs x,SqL K H a xs/\xs[i]? =some x,fun i H x H'=>H'=H/\∀xs,SqL K H a xs->xs[i]? =some x,fun i H=>∃xs,SqL K H a xs/\xs.length<=i⟩
noncomputable def Itt (K:PySem.W.Frag) (a:Addr):It:=
 ⟨fun i H=>∃xs x,SqT K H a xs/\xs[i]? =some x,fun i H x H'=>H'=H/\∀xs,SqT K H a xs->xs[i]? =some x,fun i H=>∃xs,SqT K H a xs/\xs.length<=i⟩
def Itr (lo:Int) (n:Nat):It:=⟨fun i _=>i<n,fun i H x H'=>H'=H/\x= .int (lo+i),fun i _=>n<=i⟩
theorem kKw {P:Program} {w:World} {K:PySem.W.Frag} {tg:Expr} (a it:Addr):Turn P w K tg (Itl K a) [it] it (fun i h=>h.IsListIter it a i) where
 mem:=by simp
 obj:=fun i h st b hb=>by
  have e:b=it:=by simpa using hb
  subst e
  obtain⟨o,e,c,d⟩:=st
  exact⟨o,e,fun v z=>by rw[d] at z;cases z⟩
 keep:=fun i h h' st k=>st.at fun o e=>k it (by simp) o e
 item:=by
  intro X hP hw hK hc i pins s σ H E I hf st hg
  subst hP hw hK
  obtain⟨xs,x,hq,hx⟩:=hg
  obtain⟨its,rv,p,hz⟩:=I.list hq
  obtain⟨u,hu,ru⟩:=rv.get hx
  obtain⟨f0,f1,f2,f3,f4,f5⟩:=hf it (by simp)
  refine wpAny_pyNext_list_item st p.isList (x:=u) (by simpa using hu) fun h' st' sb=> ?_
  have I1:Inv X pins σ H {s with heap:=h'}:=I.turned (t':=s.toks) (fun b o hb e=>(sb.2 b hb).trans e) f0 f1 f3 f4 f5
  obtain⟨o,e,c,d⟩:=id st'
  exact⟨u,rfl,kZc (s:={s with heap:=h'}) e c d (by decide) ⟨x,H,I1,ru,⟨rfl,fun ys hy=>by rw[I.list_inj hy hq];exact hx⟩,st',fun b hb=>(hf b hb).1⟩⟩
 done:=by
  intro X hP hw hK hc i pins s σ H E I hf st hg
  subst hP hw hK
  obtain⟨xs,hq,hx⟩:=hg
  obtain⟨its,rv,p,hz⟩:=I.list hq
  obtain⟨f0,f1,f2,f3,f4,f5⟩:=hf it (by simp)
  have hl:=rv.length
  exact wpAny_pyNext_list_end (I.ok.hd hc) st p.isList (by simp;omega) fun h' eb=>⟨rfl,I.turned (t':=s.toks) (fun b o hb e=>eb b o hb e) f0 f1 f3 f4 f5⟩
 self:=fun _ _ _ _ _ st h=>wpAny_pyIter_listiter st h
theorem kJ8 {P:Program} {w:World} {K:PySem.W.Frag} {tg:Expr} (a it:Addr):Turn P w K tg (Itt K a) [it] it (fun i h=>h.IsTupleIter it a i) where
 mem:=by simp
 obj:=fun i h st b hb=>by
  have e:b=it:=by simpa using hb
  subst e
  obtain⟨o,e,c,d⟩:=st
  exact⟨o,e,fun v z=>by rw[d] at z;cases z⟩
 keep:=fun i h h' st k=>st.at fun o e=>k it (by simp) o e
 item:=by
  intro X hP hw hK hc i pins s σ H E I hf st hg
  subst hP hw hK
  obtain⟨xs,x,hq,hx⟩:=hg
  obtain⟨its,rv,p,hz⟩:=I.tuple hq
  obtain⟨u,hu,ru⟩:=rv.get hx
  obtain⟨f0,f1,f2,f3,f4,f5⟩:=hf it (by simp)
  refine wpAny_pyNext_tuple_item st (show s.heap.IsTuple a its.toArray from p) (x:=u) (by simpa using hu) fun h' st' sb=> ?_
  have I1:Inv X pins σ H {s with heap:=h'}:=I.turned (t':=s.toks) (fun b o hb e=>(sb.2 b hb).trans e) f0 f1 f3 f4 f5
  obtain⟨o,e,c,d⟩:=id st'
  exact⟨u,rfl,kZc (s:={s with heap:=h'}) e c d (by decide) ⟨x,H,I1,ru,⟨rfl,fun ys hy=>by rw[I.tuple_inj hy hq];exact hx⟩,st',fun b hb=>(hf b hb).1⟩⟩
 done:=by
  intro X hP hw hK hc i pins s σ H E I hf st hg
  subst hP hw hK
  obtain⟨xs,hq,hx⟩:=hg
  obtain⟨its,rv,p,hz⟩:=I.tuple hq
  obtain⟨f0,f1,f2,f3,f4,f5⟩:=hf it (by simp)
  have hl:=rv.length
  exact wpAny_pyNext_tuple_end (I.ok.hd hc) st (show s.heap.IsTuple a its.toArray from p) (by simp;omega) fun h' eb=>⟨rfl,I.turned (t':=s.toks) (fun b o hb e=>eb b o hb e) f0 f1 f3 f4 f5⟩
 self:=fun _ _ _ _ _ st h=>wpAny_pyIter_tupleiter st h
theorem kJ9 {P:Program} {w:World} {K:PySem.W.Frag} {tg:Expr} (it:Addr) (lo:Int) (n:Nat):Turn P w K tg (Itr lo n) [it] it (fun i h=>IsRangeIter h it (lo+(i:Nat)*1) ((n:Int)-(i:Nat)) 1) where
 mem:=by simp
 obj:=fun i h st b hb=>by
  have e:b=it:=by simpa using hb
  subst e
  exact⟨_,st,fun v z=>by
   have z':Data.fields _=Data.cell v:=z
   cases z'⟩
 keep:=fun i h h' st k=>k it (by simp) _ st
 item:=by
  intro X hP hw hK hc i pins s σ H E I hf st hg
  subst hP hw hK
  obtain⟨f0,f1,f2,f3,f4,f5⟩:=hf it (by simp)
  have W:=Walks.range (prog:=X.prog) (w:=X.w) (I.ok.hd hc) it lo 1 n
  refine W.item i s _ _ hg st fun v h' tk hv st' kk=> ?_
  obtain⟨t,rfl⟩:=hv
  have I1:Inv X pins σ H {s with heap:=h',toks:=tk}:=I.turned (fun b o hb e=>kk b o (by simpa using hb) e) f0 f1 f3 f4 f5
  refine⟨_,rfl,kZc (s:={s with heap:=h',toks:=tk}) (n:="range_iterator") st' rfl rfl (by decide) ⟨.int (lo+i),H,I1,⟨t,?_⟩,⟨rfl,rfl⟩,st',fun b hb=>(hf b hb).1⟩⟩
  rw[Int.mul_one]
 done:=by
  intro X hP hw hK hc i pins s σ H E I hf st hg
  subst hP hw hK
  obtain⟨f0,f1,f2,f3,f4,f5⟩:=hf it (by simp)
  exact wpAny_pyNext_range_end (I.ok.hd hc) st (by have:n<=i:=hg;omega) fun h' eb=>⟨rfl,I.turned (t':=s.toks) (fun b o hb e=>eb b o hb e) f0 f1 f3 f4 f5⟩
 self:=fun _ _ _ _ _ st h=>wpAny_pyIter_rangeiter st h
section
variable {X:Cx} {tg:Expr}
theorem kVi {pins:List (Addr×Obj)} {σ:St} {H:Hp} {s:Shared} {R:It->Hp->Prop} {E:Value->Shared->Prop} {lo hi:Int} {t u v:Tok} {tk:Nat} (I:Inv X pins σ H s) (h1: -(2^62)<=lo) (h2:lo<2^62) (h3: -(2^62)<=hi) (h4:hi<2^62)
  (q:R (Itr lo (hi-lo).toNat) H):wpAny (model X.prog X.w) X.A (pyIter (.ref s.heap.objs.size)) (PIE X pins σ tg R) E {s with heap:=s.heap.push {cls:= .type "range",data:= .fields #[.int lo t,.int hi u,.int 1 v]},toks:=tk}:=by
 refine wpAny_pyIter_range (IsRange.new ..) (small_one h1 h2 h3 h4) ?_
 have I1:Inv X pins σ H {s with heap:=s.heap.push {cls:= .type "range",data:= .fields #[.int lo t,.int hi u,.int 1 v]},toks:=tk}:=I.kept fun b o e=>Heap.get?_push_of_some _ e
 refine⟨(s.heap.push {cls:= .type "range",data:= .fields #[.int lo t,.int hi u,.int 1 v]}).objs.size,[(s.heap.push {cls:= .type "range",data:= .fields #[.int lo t,.int hi u,.int 1 v]}).objs.size],_,_,H,rfl,
  I1.kept (t':=tk) fun b o e=>Heap.get?_push_of_some _ e,kJ9 _ lo (hi-lo).toNat,?_,fun b hb=> ?_,q⟩
 ·have e1:lo+((0:Nat):Int)*1=lo:=by simp
  have e2:(((hi-lo).toNat:Nat):Int)-((0:Nat):Int)=Builtin.Range.rangeSize lo hi 1:=by rw[rangeSize_one];split<;>omega
  show IsRangeIter _ _ (lo+((0:Nat):Int)*1) ((((hi-lo).toNat:Nat):Int)-((0:Nat):Int)) 1
  rw[e1,e2]
  exact Heap.get?_push_size _ rfl
 ·have e:b=(s.heap.push {cls:= .type "range",data:= .fields #[.int lo t,.int hi u,.int 1 v]}).objs.size:=by simpa using hb
  subst e
  exact I1.fpOk (Nat.le_refl _) (I1.hok.fresh (Nat.le_refl _))
def jKy (fp:List Addr) (h:Heap):List (Addr×Obj):=fp.filterMap fun b=>(h.get? b).map fun o=>(b,o)
theorem jKs {fp:List Addr} {h:Heap} {b:Addr} {o:Obj} (hb:b∈fp) (e:h.get? b=some o):(b,o)∈jKy fp h:=List.mem_filterMap.mpr ⟨b,hb,by rw[e];rfl⟩
theorem kQo {fp:List Addr} {h:Heap} {p:Addr×Obj} (hp:p∈jKy fp h):p.1∈fp/\h.get? p.1=some p.2:=by
 obtain⟨b,hb,e⟩:=List.mem_filterMap.mp hp
 cases q:h.get? b with
 | none=>rw[q] at e;cases e
 | some o=>
  rw[q] at e
  have e':(b,o)=p:=Option.some.inj e
  subst e'
  exact⟨hb,q⟩
theorem Inv.pinned {pins:List (Addr×Obj)} {σ:St} {H:Hp} {s:Shared} {fp:List Addr} (I:Inv X pins σ H s) (hf:∀b∈fp,FpOk X pins H b) (ho:∀b∈fp,∃o,s.heap.get? b=some o/\∀v,o.data≠ .cell v):Inv X (pins++jKy fp s.heap) σ H s:=
 I.pins_of fun p hp=>(List.mem_append.mp hp).elim (fun z=>I.pin p (List.mem_append_right _ z)) fun z=>by
  obtain⟨hb,e⟩:=kQo z
  obtain⟨f0,f1,f2,_⟩:=hf p.1 hb
  obtain⟨o,e',d⟩:=ho p.1 hb
  rw[e] at e';cases e'
  exact⟨e,f0,f1,f2,d⟩
theorem Inv.unpinned {pins pl:List (Addr×Obj)} {σ:St} {H:Hp} {s:Shared} (I:Inv X (pins++pl) σ H s):Inv X pins σ H s:=I.pins_of fun p hp=>I.pin p (List.mem_append_right _ (List.mem_append_left _ hp))
end
abbrev R2:=V->V->Hp->VK->Prop
noncomputable def OpR (X:Cx) (f:Value->Value->Sem Value) (r:R2):Prop:=
 ∀(pins:List (Addr×Obj)) (s:Shared) (σ:St) (H:Hp) (x y:V) (v u:Value) (Q:VK),Inv X pins σ H s->RelV x v->RelV y u->r x y H Q->
  wpAny (model X.prog X.w) X.A (f v u) (EP X pins σ Q) X.xe s
noncomputable def jZr (X:Cx) (f:Value) (r:List V->Hp->VK->Prop):Prop:=
 ∀(pins:List (Addr×Obj)) (s:Shared) (σ:St) (H:Hp) (xs:List V) (us:List Value) (Q:VK),Inv X pins σ H s->Vals xs us->r xs H Q->
  wpAny (model X.prog X.w) X.A (call f us) (EP X pins σ Q) X.xe s
noncomputable def TruR (X:Cx) (r:V->Hp->(Bool->Hp->Prop)->Prop):Prop:=
 ∀(pins:List (Addr×Obj)) (s:Shared) (σ:St) (H:Hp) (x:V) (v:Value) (Q:Bool->Hp->Prop),Inv X pins σ H s->RelV x v->r x H Q->
  wpAny (model X.prog X.w) X.A (truthy v) (TP X pins σ Q) X.xe s
def tUn (r:V->Hp->VK->Prop) (ta:TE):TE:=fun σ H Q=>ta σ H fun x H1=>r x H1 Q
def rI (C:Int->Int->Prop) (g:Int->Int->V):R2:=fun x y H Q=>∃i j,x= .int i/\y= .int j/\C i j/\Q (g i j) H
def rI0 (g:Int->Int->V):R2:=fun x y H Q=>∃i j,x= .int i/\y= .int j/\Q (g i j) H
section
variable {X:Cx} {a b c:Expr} {ta tb tc:TE} {pos:Pos}
theorem opI {f:Value->Value->Sem Value} {C:Int->Int->Prop} {g:Int->Int->Int}
  (rule:∀(i j:Int) (t u:Tok) (s:Shared) (Q:Value->Shared->Prop) (E:Value->Shared->Prop),C i j->Q (.int (g i j) s.toks) {s with toks:=s.toks+1}->wpAny (model X.prog X.w) X.A (f (.int i t) (.int j u)) Q E s):
  OpR X f (rI C fun i j=> .int (g i j)):=by
 intro pins s σ H x y v u Q I rx ry h
 obtain⟨i,j,rfl,rfl,hc,q⟩:=h
 obtain⟨t,rfl⟩:=rx
 obtain⟨t',rfl⟩:=ry
 exact rule i j t t' s _ _ hc ⟨.int (g i j),H,I.tok _,⟨_,rfl⟩,q⟩
theorem opI0 {f:Value->Value->Sem Value} {g:Int->Int->Int}
  (rule:∀(i j:Int) (t u:Tok) (s:Shared) (Q:Value->Shared->Prop) (E:Value->Shared->Prop),Q (.int (g i j) s.toks) {s with toks:=s.toks+1}->wpAny (model X.prog X.w) X.A (f (.int i t) (.int j u)) Q E s):
  OpR X f (rI0 fun i j=> .int (g i j)):=by
 intro pins s σ H x y v u Q I rx ry h
 obtain⟨i,j,rfl,rfl,q⟩:=h
 obtain⟨t,rfl⟩:=rx
 obtain⟨t',rfl⟩:=ry
 exact rule i j t t' s _ _ ⟨.int (g i j),H,I.tok _,⟨_,rfl⟩,q⟩
theorem opB0 {f:Value->Value->Sem Value} {g:Int->Int->Bool}
  (rule:∀(i j:Int) (t u:Tok) (s:Shared) (Q:Value->Shared->Prop) (E:Value->Shared->Prop),Q (.bool (g i j)) s->wpAny (model X.prog X.w) X.A (f (.int i t) (.int j u)) Q E s):
  OpR X f (rI0 fun i j=> .bl (g i j)):=by
 intro pins s σ H x y v u Q I rx ry h
 obtain⟨i,j,rfl,rfl,q⟩:=h
 obtain⟨t,rfl⟩:=rx
 obtain⟨t',rfl⟩:=ry
 exact rule i j t t' s _ _ ⟨.bl (g i j),H,I,rfl,q⟩
def CDiv (i j:Int):Prop:=0<j/\j<1073741824
def CPow (i j:Int):Prop:=0<=j/\j<=1000000/\i.natAbs<2^64
def CMul (i j:Int):Prop:=(-(2^64)<i/\i<2^64)\/(-(2^64)<j/\j<2^64)
theorem CMul.ok {i j:Int} (h:CMul i j):IntMulOk i j:=by
 rcases h with ⟨h1,h2⟩ | ⟨h1,h2⟩
 ·exact .of_left (intBits_le_64 h1 h2)
 ·exact .of_right (intBits_le_64 h1 h2)
theorem op_add:OpR X (binaryOp .Add) (rI0 fun i j=> .int (i+j)):=opI0 fun _ _ _ _ _ _ _ q=>add_int q
theorem op_sub:OpR X (binaryOp .Sub) (rI0 fun i j=> .int (i-j)):=opI0 fun _ _ _ _ _ _ _ q=>sub_int q
theorem op_mul:OpR X (binaryOp .Mult) (rI CMul fun i j=> .int (i*j)):=opI fun _ _ _ _ _ _ _ hc q=>mul_int q hc.ok
theorem kYn:OpR X (binaryOp .FloorDiv) (rI CDiv fun i j=> .int (i / j)):=opI fun i j _ _ _ _ _ hc q=>by
 have h1:(0:Int)<j:=hc.1
 have h2:j<1073741824:=hc.2
 exact floordiv_int (by omega) (by rw[Int.fdiv_eq_ediv_of_nonneg i (by omega)];exact q) (.inl (PyProof.noPylong_small (by omega)))
theorem op_mod:OpR X (binaryOp .Mod) (rI (fun _ j=>0<j) fun i j=> .int (i%j)):=opI fun i j _ _ _ _ _ hc q=>by
 have h1:(0:Int)<j:=hc
 exact mod_int' (by omega) (by rw[Int.fmod_eq_emod_of_nonneg i (by omega)];exact q)
theorem op_pow:OpR X (binaryOp .Pow) (rI CPow fun i j=> .int (i^j.toNat)):=opI fun _ _ _ _ _ _ _ hc q=>pow_int_small hc.1 hc.2.1 hc.2.2 q
end
section
variable {X:Cx} {a b c:Expr} {ta tb tc:TE} {pos:Pos}
theorem kX0 {pins:List (Addr×Obj)} {σ:St} {H:Hp} {s:Shared} {Q:VK} {k k':Bool} (I:Inv X pins σ H s) (q:Q (.bl k) H) (e:k=k'):EP X pins σ Q (.bool k') s:=by
 subst e
 exact⟨.bl k,H,I,rfl,q⟩
theorem op_lt:OpR X (compareOp .Lt) (rI0 fun i j=> .bl (decide (i<j))):=opB0 fun _ _ _ _ _ _ _ q=>lt_int q
theorem op_le:OpR X (compareOp .LtE) (rI0 fun i j=> .bl (decide (i<=j))):=opB0 fun _ _ _ _ _ _ _ q=>le_int q
theorem op_gt:OpR X (compareOp .Gt) (rI0 fun i j=> .bl (decide (j<i))):=opB0 fun _ _ _ _ _ _ _ q=>gt_int q
theorem op_ge:OpR X (compareOp .GtE) (rI0 fun i j=> .bl (decide (j<=i))):=opB0 fun _ _ _ _ _ _ _ q=>ge_int q
theorem op_isN:OpR X (compareOp .Is) (fun x y H Q=>y= .non/\Q (.bl (decide (x= .non))) H):=by
 intro pins s σ H x y v u Q I rx ry h
 obtain⟨rfl,q⟩:=h
 cases ry
 refine is_none_gen (kX0 I q ?_)
 cases x<;>first
  | (cases rx;rfl)
  | (obtain⟨t,rfl⟩:=rx;rfl)
theorem kYm:OpR X (compareOp .IsNot) (fun x y H Q=>y= .non/\Q (.bl (!decide (x= .non))) H):=by
 intro pins s σ H x y v u Q I rx ry h
 obtain⟨rfl,q⟩:=h
 cases ry
 refine isnot_none_gen (kX0 I q ?_)
 cases x<;>first
  | (cases rx;rfl)
  | (obtain⟨t,rfl⟩:=rx;rfl)
theorem nomark (b:Expr) {op:CmpOp} (h:op≠ .In:=by decide) (h2:op≠ .NotIn:=by decide):behindInMarks op b=false:=by
 have e1:(op == CmpOp.In)=false:=by cases op<;>first | rfl | exact absurd rfl h
 have e2:(op == CmpOp.NotIn)=false:=by cases op<;>first | rfl | exact absurd rfl h2
 cases b<;>simp[behindInMarks,e1,e2]
noncomputable def TruV (K:PySem.W.Frag) (x:V) (H:Hp) (k:Bool):Prop:=
 match x with
 | .non=>k=false
 | .bl b=>k=b
 | .int i=>k=(i != 0)
 | .str y=>y.length<=sizeLine/\k=((y.length:Int) != 0)
 | .byt y=>y.size<=sizeLine/\k=((y.size:Int) != 0)
 | .ref p=>(∃xs,SqL K H p xs/\k= !xs.isEmpty)\/(∃xs,SqT K H p xs/\k= !xs.isEmpty)\/∃kvs,H p=some (.dK kvs)/\k= !kvs.isEmpty
 | _=>False
theorem kKm {κ:Type} {kvs:List (κ×V)} {vs:List (κ×Value)} (r:KV kvs vs):(!vs.isEmpty)= !kvs.isEmpty:=by
 cases r<;>rfl
theorem jXu {xs:List V} {its:List Value} (r:Vals xs its):(!its.toArray.isEmpty)= !xs.isEmpty:=by
 cases r<;>simp
theorem jXt:(sizeLine:Nat)<2^63:=by rw[sizeLine_eq];decide
theorem tru_ok:TruR X (fun x H Q=>∃k,TruV X.K x H k/\Q k H):=by
 intro pins s σ H x v Q I rx h
 obtain⟨k,e,q⟩:=h
 have hl:=jXt
 have hs:sizeLine=16777216:=sizeLine_eq
 cases x with
 | non=>
  cases rx
  have e':k=false:=e
  subst e'
  exact truthy_none ⟨H,I,q⟩
 | bl b=>
  cases rx
  have e':k=b:=e
  subst e'
  exact wpAny_truthy_bool ⟨H,I,q⟩
 | int i=>
  obtain⟨t,rfl⟩:=rx
  have e':k=(i != 0):=e
  subst e'
  exact PySem.P.truthy_int ⟨H,I,q⟩
 | str y=>
  obtain⟨t,rfl⟩:=rx
  obtain⟨hy,e'⟩:y.length<=sizeLine/\k=((y.length:Int) != 0):=e
  subst e'
  exact PySem.P.truthy_str (by omega) ⟨H,I.tok _,q⟩
 | byt y=>
  obtain⟨t,rfl⟩:=rx
  obtain⟨hy,e'⟩:y.size<=sizeLine/\k=((y.size:Int) != 0):=e
  subst e'
  exact PySem.W.truthy_bytes (by omega) ⟨H,I.tok _,q⟩
 | ref p=>
  cases rx
  have e':(∃xs,SqL X.K H p xs/\k= !xs.isEmpty)\/(∃xs,SqT X.K H p xs/\k= !xs.isEmpty)\/∃kvs,H p=some (.dK kvs)/\k= !kvs.isEmpty:=e
  rcases e' with ⟨xs,hx,e'⟩ | ⟨xs,hx,e'⟩ | ⟨kvs,hx,e'⟩
  ·subst e'
   obtain⟨its,r,pl,hz⟩:=I.list hx
   have hlen:=r.length
   exact wpAny_truthy_list pl.isList (by simp only[List.size_toArray];omega) ⟨H,I.tok _,by rw[jXu r];exact q⟩
  ·subst e'
   obtain⟨its,r,pl,hz⟩:=I.tuple hx
   have hlen:=r.length
   exact truthy_tuple pl (by simp only[List.size_toArray];omega) ⟨H,I.tok _,by rw[jXu r];exact q⟩
  ·subst e'
   obtain⟨hz,hS,vs,r,m⟩:kvs.length<=sizeLine/\(p == sysModules)=false/\∃vs,KV kvs vs/\s.heap.DictOf (jJ2 X.prog X.w) p vs:=I.hok p _ hx
   have hlen:kvs.length=vs.length:=Paired.length r
   exact wpAny_truthy_dict hS m (by omega) ⟨H,I.tok _,by rw[kKm r];exact q⟩
 | _=>exact (show False from e).elim
theorem kJ7 {x:V} {us:List Value} (r:Vals [x] us):∃u,us=[u]/\RelV x u:=by
 cases r with
 | cons r1 r2=>cases r2;exact⟨_,rfl,r1⟩
theorem vals2 {x y:V} {us:List Value} (r:Vals [x,y] us):∃u w',us=[u,w']/\RelV x u/\RelV y w':=by
 cases r with
 | cons r1 r2=>
  cases r2 with
  | cons r3 r4=>cases r4;exact⟨_,_,rfl,r1,r3⟩
theorem kXi:jZr X (.builtin "abs") (fun xs H Q=>∃i,xs=[.int i]/\Q (.int (if i<0 then -i else i)) H):=by
 intro pins s σ H xs us Q I r h
 obtain⟨i,rfl,q⟩:=h
 obtain⟨u,rfl,t,rfl⟩:=kJ7 r
 exact call_abs_int fun u tk=>⟨.int (if i<0 then -i else i),H,I.tok _,⟨_,rfl⟩,q⟩
theorem kUq (hc:X.calm=true):jZr X (.builtin "max") (fun xs H Q=>∃i j,xs=[.int i,.int j]/\Q (.int (if j>i then j else i)) H):=by
 intro pins s σ H xs us Q I r h
 obtain⟨i,j,rfl,q⟩:=h
 obtain⟨u,w',rfl,⟨t,rfl⟩,⟨t',rfl⟩⟩:=vals2 r
 refine max_two_ints (I.ok.hd hc) fun h' tk k=>⟨_,H,I.kept k,?_,q⟩
 by_cases hj:j>i
 ·rw[if_pos hj,if_pos hj];exact⟨_,rfl⟩
 ·rw[if_neg hj,if_neg hj];exact⟨_,rfl⟩
theorem kUp (hc:X.calm=true):jZr X (.builtin "min") (fun xs H Q=>∃i j,xs=[.int i,.int j]/\Q (.int (if j<i then j else i)) H):=by
 intro pins s σ H xs us Q I r h
 obtain⟨i,j,rfl,q⟩:=h
 obtain⟨u,w',rfl,⟨t,rfl⟩,⟨t',rfl⟩⟩:=vals2 r
 refine min_two_ints (I.ok.hd hc) fun h' tk k=>⟨_,H,I.kept k,?_,q⟩
 by_cases hj:j<i
 ·rw[if_pos hj,if_pos hj];exact⟨_,rfl⟩
 ·rw[if_neg hj,if_neg hj];exact⟨_,rfl⟩
theorem kUr:jZr X (.type "int") (fun xs H Q=>(∃i,xs=[.int i]/\Q (.int i) H)\/∃k,xs=[.bl k]/\Q (.int (if k then 1 else 0)) H):=by
 intro pins s σ H xs us Q I r h
 rcases h with ⟨i,rfl,q⟩ | ⟨k,rfl,q⟩
 ·obtain⟨u,rfl,t,rfl⟩:=kJ7 r
  exact call_int_int ⟨.int i,H,I,⟨_,rfl⟩,q⟩
 ·obtain⟨u,rfl,r1⟩:=kJ7 r
  cases r1
  exact call_int_bool ⟨.int (if k then 1 else 0),H,I.tok _,⟨_,rfl⟩,q⟩
end
section
variable {prog:Program} {w:World} {A:Around} {E:Value->Shared->Prop} {s:Shared} {K:PySem.W.Frag} {x dx C f:Addr} {mA:Str->Option Value} {name:Str} {v:Value}
end
theorem RelO.some_of {v:V} {o:Option Value} (r:RelO (some v) o):∃u,o=some u/\RelV v u:=by
 cases o with
 | none=>exact (show False from r).elim
 | some u=>exact⟨u,rfl,r⟩
section
variable {P:Program} {w:World} {H H':Hp} {h h':Heap} {a C dx:Addr} {fs fs':List (Str×V)}
end
section
variable {X:Cx} {pins:List (Addr×Obj)} {σ:St} {H:Hp} {s:Shared} {a C dx:Addr} {fs:List (Str×V)} {f:Str} {v:V} {A:Around} {E:Value->Shared->Prop}
end
section
variable {X:Cx} {o e value:Expr} {f:Str} {pos pos' tpos:Pos} {ta tv:TE}
end
section
variable {X:Cx} {pins:List (Addr×Obj)} {σ:St} {H:Hp} {s:Shared} {A:Around} {E:Value->Shared->Prop} {Q:Value->Shared->Prop} {c:Value} {b:Bool}
end
structure Room (k:Nat) (A:Around):Prop where
 hd:A.handled=none
 gd:A.guards=some []
 dp:A.depth+3*k+5<recursionLimit
 un:A.units+16*k+200<cLine
theorem Room.mono {j k:Nat} {A:Around} (r:Room k A) (h:j<=k):Room j A:=⟨r.hd,r.gd,by have:=r.dp;omega,by have:=r.un;omega⟩
theorem Room.deeper {k:Nat} {A:Around} (r:Room (k+1) A) (env:Env):Room k (A.deeper env):=
 ⟨r.hd,r.gd,by have:=r.dp;show A.depth+1+3*k+5<_;omega,by have:=r.un;show A.units+3+16*k+200<_;omega⟩
theorem Room.depth {k:Nat} {A:Around} (r:Room k A):A.depth<recursionLimit:=by have:=r.dp;omega
theorem Room.units {k:Nat} {A:Around} (r:Room k A):A.units+64<cLine:=by have:=r.un;omega
section
variable {X:Cx} {e:Expr} {es:List Expr} {te:TE} {t:TA} {pos:Pos}
end
abbrev Sp:=List V->Hp->VK->XK->Prop
abbrev CXT:=List Env->Hp->Shared->XK->Value->Shared->Prop
structure Env0 (P:Program) (w:World) (K:PySem.W.Frag) (mg:Str->Option Value) (base:Heap) (A:Around) (outer:List Env) (s:Shared) (H:Hp):Prop where
 frames:A.frames=some outer
 mod:Mod K mg base
 bs:∀b o,base.get? b=some o->s.heap.get? b=some o/\H b=none
 bsz:base.objs.size<=s.heap.objs.size
 funs:s.heap.FunFrames base outer
 frf:∀b∈frs outer,H b=none
 hok:HOk P w H s.heap
 bare:AllBare s.gens
noncomputable def CE (outer:List Env) (P:Program) (w:World) (H:Hp) (s:Shared) (Q:VK) (u:Value) (s':Shared):Prop:=
 ∃v H',s'.os=s.os/\AllBare s'.gens/\Un (frs outer) [] H H' s.heap s'.heap/\HOk P w H' s'.heap/\RelV v u/\Q v H'
noncomputable def CR (CX:CXT) (outer:List Env) (P:Program) (w:World) (H:Hp) (s:Shared) (Q:VK) (E:XK) (r:Result) (s':Shared):Prop:=
 match r with
 | .ok (.ret u)=>CE outer P w H s Q u s'
 | .ok _=>False
 | .error e=>CX outer H s E e s'
structure FnOk (P:Program) (w:World) (K:PySem.W.Frag) (mg:Str->Option Value) (base:Heap) (CX:CXT) (k:Nat) (f:Addr) (fd:FuncData) (ps:List Str) (sp:Sp):Prop where
 len:∀vs H Q E,sp vs H Q E->vs.length=ps.length
 run:∀(A:Around) (outer:List Env) (s:Shared) (H:Hp) (args:Args) (us:List Value) (vs:List V) (Q:VK) (E:XK),Room k A->Env0 P w K mg base A outer s H->BindsTo s fd args (ps.zip us)->Vals vs us->sp vs H Q E->
  codeAny (model P w) A (.call (.ref f) args) (CR CX outer P w H s Q E) s
section
variable {X:Cx} {pins:List (Addr×Obj)} {σ:St} {H:Hp} {s s':Shared}
theorem Inv.env0 (I:Inv X pins σ H s):Env0 X.prog X.w X.K X.mg X.base X.A X.stack s H:=
 ⟨I.ok.frames,I.ok.mod,I.bs,Nat.le_trans I.ok.bsz I.sz,I.stack,I.stkFree,I.hok,I.bare⟩
theorem Inv.after {Q:VK} {u:Value} (I:Inv X pins σ H s) (h:CE X.stack X.prog X.w H s Q u s'):EP X pins σ Q u s':=by
 obtain⟨v,H',os,bare,un,hok,r,q⟩:=h
 obtain⟨hh,g,d,t,os'⟩:=s'
 obtain rfl:os'=s.os:=os
 exact⟨v,H',I.call (h':=hh) (g':=g) (d':=d) (t':=t) (ch:=[]) un hok bare (fun b z=>absurd z (by simp)),r,q⟩
end
noncomputable def Binds (K:PySem.W.Frag) (fd:FuncData) (ps:List Str) (ds:List Value):Prop:=
 ∀(s:Shared) (us:List Value),K.In s.heap->(us++ds).length=ps.length->BindsTo s fd ⟨us,[]⟩ (ps.zip (us++ds))
theorem Binds.all {K:PySem.W.Frag} {fd:FuncData} {ps:List Str} (h:∀us:List Value,us.length=ps.length->bindArgs fd ⟨us,[]⟩=pure (ps.zip us)):Binds K fd ps []:=fun s us _ hl=>by
 rw[List.append_nil] at hl ⊢
 exact .of_eq (h us hl)
def kX4 (CX:CXT) (X:Cx) (E:XK):Prop:=∀(pins:List (Addr×Obj)) (σ:St) (H:Hp) (s:Shared) (e:Value) (s':Shared),Inv X pins σ H s->CX X.stack H s E e s'->X.xe e s'
section
variable {X:Cx} {CX:CXT} {k:Nat} {f C:Addr} {fd:FuncData} {ps:List Str} {sp:Sp} {dvs:List V} {ds:List Value} {E:XK} {x m:Str} {p pos apos:Pos} {e o:Expr} {es:List Expr} {ta:TE} {t:TA}
theorem run_fn {pins:List (Addr×Obj)} {σ:St} {H:Hp} {s:Shared} {Q:VK} {us:List Value} {vs:List V} (F:FnOk X.prog X.w X.K X.mg X.base CX k f fd ps sp) (hr:Room k X.A) (hb:Binds X.K fd ps ds) (hd:Vals dvs ds) (hx:kX4 CX X E)
  (I:Inv X pins σ H s) (r:Vals vs us) (h:sp (vs++dvs) H Q E):wpAny (model X.prog X.w) X.A (call (.ref f) us) (EP X pins σ Q) X.xe s:=by
 have r2:Vals (vs++dvs) (us++ds):=r.append hd
 have hl:(us++ds).length=ps.length:=by rw[<-r2.length];exact F.len _ _ _ _ h
 refine wpAny_call (codeAny_mono (F.run X.A X.stack s H ⟨us,[]⟩ (us++ds) (vs++dvs) Q E hr I.env0 (hb s us I.kIn hl) r2 h) fun r s' hq=> ?_)
 cases r with
 | error e=>exact hx pins σ H s e s' I hq
 | ok fl=>
  cases fl with
  | ret u=>exact I.after hq
  | next=>exact False.elim hq
  | brk=>exact False.elim hq
  | cont=>exact False.elim hq
end
section
variable {X:Cx} {CX:CXT} {k:Nat} {f C:Addr} {fd:FuncData} {ps ks:List Str} {sp:Sp} {E:XK} {x m:Str} {p pos apos kpos:Pos} {e o:Expr} {es:List Expr} {kws:List Keyword} {te ta:TE} {t tk:TA} {nm:Option Str}
variable {g:List Value->List Value->List Value} {gV:List V->List V->List V}
end
structure FnScope (N P:List Str) (sc:Scope):Prop where
 kind:sc.kind= .function
 co:sc.isCoroutine=false
 gen:sc.isGenerator=false
 nd:N.Nodup
 pre:N.take P.length=P
 par:∀x∈P,sc.names.lookup x=some .local\/sc.names.lookup x=some .cell
 nofree:∀y∈sc.names,y.2≠ .free
theorem jZi {kindOf:Str->Option NameKind} {x:Str}:∀ {binds:List (Str×Value)} {m:Str->Option Value},(∀v,(x,v)∉binds)->bindL kindOf binds m x=m x
 | [],_,_=>rfl
 | (n,v)::r,m,h=>by
  unfold bindL
  rw[jZi fun w hw=>h w (List.mem_cons_of_mem _ hw)]
  split
  ·have:x≠n:=by rintro rfl;exact h v List.mem_cons_self
   simp[this]
  ·rfl
theorem jZk {kindOf:Str->Option NameKind} {x:Str}:∀ {binds:List (Str×Value)} {m:Str->Option Value},(∀v,(x,v)∉binds)->bindC kindOf binds m x=m x
 | [],_,_=>rfl
 | (n,v)::r,m,h=>by
  unfold bindC
  rw[jZk fun w hw=>h w (List.mem_cons_of_mem _ hw)]
  split
  ·rfl
  ·have:x≠n:=by rintro rfl;exact h v List.mem_cons_self
   simp[this]
theorem jZj {kindOf:Str->Option NameKind} {x:Str} {v:Value}:∀ {P:List Str} {vs:List Value} {i:Nat} {m:Str->Option Value},P.Nodup->P[i]? =some x->vs[i]? =some v->kindOf x=some .local->
  bindL kindOf (P.zip vs) m x=some v
 | [],_,_,_,_,h,_,_=>by simp at h
 | _::_,[],_,_,_,_,h,_=>by simp at h
 | p::P,w::vs,0,m,nd,h1,h2,hk=>by
  simp at h1 h2;subst h1;subst h2
  show bindL kindOf ((p,w)::P.zip vs) m p=_
  unfold bindL
  rw[jZi fun v hv=>(List.nodup_cons.mp nd).1 (List.of_mem_zip hv).1,if_pos hk]
  simp
 | p::P,w::vs,i+1,m,nd,h1,h2,hk=>by
  show bindL kindOf ((p,w)::P.zip vs) m x=_
  unfold bindL
  exact jZj (i:=i) (List.nodup_cons.mp nd).2 (by simpa using h1) (by simpa using h2) hk
theorem jZl {kindOf:Str->Option NameKind} {x:Str} {v:Value}:∀ {P:List Str} {vs:List Value} {i:Nat} {m:Str->Option Value},P.Nodup->P[i]? =some x->vs[i]? =some v->kindOf x≠some .local->
  bindC kindOf (P.zip vs) m x=some v
 | [],_,_,_,_,h,_,_=>by simp at h
 | _::_,[],_,_,_,_,h,_=>by simp at h
 | p::P,w::vs,0,m,nd,h1,h2,hk=>by
  simp at h1 h2;subst h1;subst h2
  show bindC kindOf ((p,w)::P.zip vs) m p=_
  unfold bindC
  rw[jZk fun v hv=>(List.nodup_cons.mp nd).1 (List.of_mem_zip hv).1,if_neg hk]
  simp
 | p::P,w::vs,i+1,m,nd,h1,h2,hk=>by
  show bindC kindOf ((p,w)::P.zip vs) m x=_
  unfold bindC
  exact jZl (i:=i) (List.nodup_cons.mp nd).2 (by simpa using h1) (by simpa using h2) hk
def start (N:List Str) (vs:List V):St:=vs.map some++List.replicate (N.length-vs.length) none
noncomputable def cxOf (CX:CXT) (P:Program) (w:World) (K:PySem.W.Frag) (mg:Str->Option Value) (base:Heap) (N:List Str) (qual:Str) (scope:Scope) (f:Addr) (cd:Value) (A:Around) (outer:List Env) (s:Shared) (H:Hp) (E:XK):Cx where
 prog:=P
 w:=w
 K:=K
 mg:=mg
 base:=base
 A:=A.deeper (envOfC qual scope s.heap.objs.size f cd)
 N:=N
 s₀:=s
 H₀:=H
 env:=envOfC qual scope s.heap.objs.size f cd
 outer:=outer
 stack:=envOfC qual scope s.heap.objs.size f cd::outer
 ex:=[]
 calm:=true
 fn:=fun _=>true
 pn:=[]
 xe:=fun e s'=>wpAny (model P w) (A.deeper (envOfC qual scope s.heap.objs.size f cd)) (leaving (envOfC qual scope s.heap.objs.size f cd) e) (fun _ s''=>CX outer H s E e s'') (fun e' s''=>CX outer H s E e' s'') s'
theorem kJ3 {sc:Scope} {n:Nat} {x:Str} (h:sc.names.lookup x=some .cell):∃c,(cellsFrom n sc.names []).lookup x=some c:=by
 have q:=PySem.W.cellsFrom_some sc.names n [] (.inl h)
 exact Option.isSome_iff_exists.mp q
theorem kQ0 {CX:CXT} {P:Program} {w:World} {K:PySem.W.Frag} {mg:Str->Option Value} {base:Heap} {N ps:List Str} {qual:Str} {scope:Scope} {f:Addr} {cd:Value} {A:Around} {outer:List Env} {s s1:Shared} {H:Hp} {E:XK} {us:List Value} {vs:List V}
  (S:FnScope N ps scope) (hd:A.handled=none/\A.guards=some []) (e0:Env0 P w K mg base A outer s H) (hl:vs.length=ps.length) (r:Vals vs us)
  (x:InCallC s s.heap.objs.size (bindL (envOfC qual scope s.heap.objs.size f cd).kindOf (ps.zip us) fun _=>none) (cellsFrom (s.heap.objs.size+1) scope.names []) (bindC (envOfC qual scope s.heap.objs.size f cd).kindOf (ps.zip us) fun _=>none) s1):
  Inv (cxOf CX P w K mg base N qual scope f cd A outer s H E) [] (start N vs) H s1:=by
 have hpl:ps.length<=N.length:=by have:=congrArg List.length S.pre;rw[List.length_take] at this;omega
 obtain⟨h1,tk,rfl,hk⟩:=x.done
 have noA:∀b:Addr,b∉(cxOf CX P w K mg base N qual scope f cd A outer s H E).ex:=fun b z=>absurd (show b∈([]:List Addr) from z) (by simp)
 refine⟨⟨e0.mod,S.kind,rfl,rfl,Nat.le_refl _,fun y z c h1 h2=> ?_,fun y hy=> ?_,fun y c _ h=> ?_,fun _=>hd.1,fun _=>hd.2,Around.frames_deeper e0.frames,.inr ⟨rfl,rfl⟩,fun b z=>absurd z (noA b),e0.bs,e0.bsz,fun b _ _=>noA b,fun b z=>absurd z (noA b),e0.funs,e0.frf⟩,
  rfl,e0.bare,Un.kept hk,⟨_,x.toInCall.ns,fun i y v h1 h2 h3=> ?_⟩,fun y c h=>⟨_,x.cell y c h⟩,e0.hok.fresh (Nat.le_refl _),fun y c h=> ?_,fun p hp=>absurd (show p∈([]:List (Addr×Obj)) from hp) (by simp),e0.hok.kept hk,?_⟩
 ·exact name_of_addr x.apart (PySem.mem_of_lookup h1) (PySem.mem_of_lookup h2)
 ·have hy:scope.names.lookup y=some .cell\/scope.names.lookup y=some .free:=hy
  rcases hy with hy | hy
  ·exact kJ3 hy
  ·exact absurd rfl (S.nofree _ (PySem.mem_of_lookup hy))
 ·exact Nat.le_of_lt (x.above y c (PySem.mem_of_lookup h))
 ·have hi:i<vs.length:=by
   unfold start at h2
   by_cases hi:i<vs.length
   ·exact hi
   ·rw[List.getElem?_append_right (by simpa using hi)] at h2
    rw[List.getElem?_replicate] at h2
    split at h2<;>cases h2
  have ha:vs[i]? =some v:=by
   unfold start at h2
   rw[List.getElem?_append_left (by simpa using hi),List.getElem?_map] at h2
   cases e:vs[i]? with
   | none=>rw[e] at h2;cases h2
   | some a=>rw[e] at h2;cases h2;rfl
  obtain⟨u,hu,rv⟩:=r.get ha
  have hp:ps[i]? =some y:=by
   rw[<-S.pre,List.getElem?_take_of_lt (by omega)];exact h1
  have ndP:ps.Nodup:=by rw[<-S.pre];exact S.nd.sublist (List.take_sublist _ _)
  refine⟨u,rv,?_⟩
  rcases S.par y (List.mem_of_getElem? hp) with k | k
  ·exact .inl ⟨k,jZj ndP hp hu k⟩
  ·obtain⟨c,e⟩:=kJ3 (n:=s.heap.objs.size+1) k
   refine .inr ⟨.inl k,c,e,?_⟩
   have q:=x.cell y c e
   rw[jZl ndP hp hu (by show scope.names.lookup y≠_;rw[k];decide)] at q
   exact q
 ·exact e0.hok.fresh (Nat.le_of_lt (x.above y c (PySem.mem_of_lookup h)))
 ·unfold start
  show _=N.length
  rw[List.length_append,List.length_map,List.length_replicate]
  omega
theorem fn_of {CX:CXT} {P:Program} {w:World} {K:PySem.W.Frag} {mg:Str->Option Value} {base:Heap} {k:Nat} {f:Addr} {name qual:Str} {params:Arguments} {body:List Stmt} {scope:Scope} {dV kV doc pm cdv ct oc:Value} {an od:Option Addr}
  {osl:Array (Option Value)} {N ps:List Str} {sp:Sp} (lk:K.lookup f=some ⟨oc,od,.func (PySem.W.fnOf name qual params body scope dV kV doc pm an cdv ct),osl⟩) (hcd:PySem.W.codeIn K cdv qual=true) (S:FnScope N ps scope)
  (len:∀vs H Q E,sp vs H Q E->vs.length=ps.length)
  (hbody:∀(A:Around) (outer:List Env) (s:Shared) (H:Hp) (vs:List V) (Q:VK) (E:XK),Room k (A.deeper (envOfC qual scope s.heap.objs.size f cdv))->sp vs H Q E->
   ∃t,PSs (cxOf CX P w K mg base N qual scope f cdv A outer s H E) body t/\t {nx:=fun _ H'=>Q .non H',rt:=Q} (start N vs) H):
  FnOk P w K mg base CX (k+1) f (PySem.W.fnOf name qual params body scope dV kV doc pm an cdv ct) ps sp:=by
 refine⟨len,fun A outer s H args us vs Q E hr e0 hb r hsp=> ?_⟩
 have hl:=len _ _ _ _ hsp
 have KX:K.In s.heap:=e0.mod.kin.keeps fun b o e=>(e0.bs b o e).1
 have lim:s.heap.NoLimit:=e0.mod.nolimit.keeps fun b o e=>(e0.bs b o e).1
 have hkind:∀y∈ps.zip us,scope.names.lookup y.1=some .local\/(scope.names.lookup y.1=some .cell/\((cellsFrom (s.heap.objs.size+1) scope.names []).lookup y.1).isSome=true):=fun ⟨n,v⟩ hy=>by
  rcases S.par n (List.of_mem_zip hy).1 with q | q
  ·exact .inl q
  ·exact .inr ⟨q,PySem.W.cellsFrom_some _ _ _ (.inl q)⟩
 refine codeAny_call_function hr.depth (KX _ _ lk) rfl S.co S.gen rfl (PySem.W.codeRec_of KX hcd) (hb _ _ _ _ ?_)
 refine wpAny_newFunctionEnv_cells S.kind hkind fun env he s1 x=> ?_
 subst he
 refine⟨lim.keeps x.toInCall.keep,codeAny_func ?_⟩
 obtain⟨t,ht,hq⟩:=hbody A outer s H vs Q E (hr.deeper _) hsp
 have I:Inv (cxOf CX P w K mg base N qual scope f cdv A outer s H E) [] (start N vs) H s1:=kQ0 S ⟨hr.hd,hr.gd⟩ e0 hl r x
 refine wpAny_mono (ht [] s1 (start N vs) H _ I hq) (fun fl s' hs=> ?_) fun e s' hs=>hs
 have fin:∀ {σ':St} {H':Hp} {v:V} {u:Value},Inv (cxOf CX P w K mg base N qual scope f cdv A outer s H E) [] σ' H' s'->RelV v u->Q v H'->CE outer P w H s Q u s':=
  fun {σ' H' v u} J rv q=>⟨v,H',J.os,J.bare,J.base,J.hok,rv,q⟩
 cases fl with
 | ret u=>
  obtain⟨v,σ',H',J,rv,q⟩:=hs
  exact fin J rv q
 | next=>
  obtain⟨σ',H',J,q⟩:=hs
  exact fin (v:=V.non) (u:=Value.none) J rfl q
 | brk=>
  obtain⟨_,_,_,q⟩:=hs
  exact False.elim q
 | cont=>
  obtain⟨_,_,_,q⟩:=hs
  exact False.elim q
section
variable {X:Cx} {x:Str} {p pos:Pos} {e:Expr} {es:List Expr} {t:TA} {id T:String} {r:List V->Hp->VK->Prop}
end
end L2
namespace HT
open PySem PyProof.Rows
theorem kXc (A:Around) (s:Shared) (a:Int) (t:Tok) (c:Int) (u:Tok):∃e,SeqAt.EqAt A s (.int a t) (.int c u) e/\(e=true↔a=c):=
 ⟨(a == c),SeqAt.EqAt.int_int a t c u,by simp⟩
section
open PySem.SeqAt
open PySem.AutoSeq1 (wpAny_loadPart')
open PySem.MeetsSeq PySem.MeetsSeq2 PySem.MeetsSeq3
end
section
variable {prog:Program} {w:World} {A:Around} {E:Value->Shared->Prop} {s:Shared}
theorem cat_tup {t b:Addr} {vs ws:List Value} {Q:Value->Shared->Prop} (ht:IsTup s.heap t vs.toArray) (hb:IsTup s.heap b ws.toArray) (hv:vs≠[])
  (h1:ws=[]->Q (.ref t) s) (h2:ws≠[]->Q (.ref s.heap.objs.size) {s with heap:=s.heap.push {cls:= .type "tuple",data:= .seq (vs++ws).toArray} })
  (hsz:vs.length+ws.length<=sizeLine):wpAny (model prog w) A (binaryOp .Add (.ref t) (.ref b)) Q E s:=by
 obtain⟨⟨cls,dd,data,sl⟩,ho,hc,n,hd⟩:=id ht
 obtain⟨⟨cls2,dd2,data2,sl2⟩,ho2,hc2,n2,hd2⟩:=id hb
 simp only at hc hd hc2 hd2
 subst hc hd hc2 hd2
 have e:vs.toArray++ws.toArray=(vs++ws).toArray:=by simp
 by_cases hw:ws=[]
 ·exact concat_meets ⟨_,ho,rfl⟩ ⟨_,ho2,rfl⟩ noFill_tuple_add seq_tuple_add PySem.F.slot_tuple_add PySem.F.entry_tuple_add (PySem.F.args_tuple_add_2 _ _)
   (tuple_addW1 t b vs.toArray ws.toArray n n2 dd dd2 sl sl2 (by simpa using hv) (by simp[hw])) ⟨ho,ho2,h1 hw⟩
 ·refine concat_meets ⟨_,ho,rfl⟩ ⟨_,ho2,rfl⟩ noFill_tuple_add seq_tuple_add PySem.F.slot_tuple_add PySem.F.entry_tuple_add (PySem.F.args_tuple_add_2 _ _)
   (tuple_addW2 t b vs.toArray ws.toArray n n2 dd dd2 sl sl2 (by simpa using hv) (by simpa using hw) (by rw[List.size_toArray,List.size_toArray];exact hsz)) ⟨ho,ho2,?_⟩
  rw[e]
  exact h2 hw
def sIx (n d:Nat):Option Int->Nat
 | none=>d
 | some v=>if v<0 then (v+(n:Int)).toNat else min v.toNat n
theorem sIx_none (n d:Nat):sIx n d none=d:=rfl
theorem sIx_nat (n d k:Nat):sIx n d (some (k:Int))=min k n:=by
 show (if (k:Int)<0 then ((k:Int)+(n:Int)).toNat else min (k:Int).toNat n)=min k n
 rw[if_neg (by omega),Int.toNat_natCast]
theorem sIx_le (n d:Nat) (hd:d<=n) (o:Option Int):sIx n d o<=n:=by
 cases o with
 | none=>exact hd
 | some v=>
  show (if v<0 then (v+(n:Int)).toNat else min v.toNat n)<=n
  by_cases hv:v<0
  ·rw[if_pos hv];omega
  ·rw[if_neg hv];exact Nat.min_le_right _ _
theorem kUn (v:Int) (n d:Nat):(if v<0 then max (v+(n:Int)) 0 else min v (n:Int))=((sIx n d (some v):Nat):Int):=by
 show (if v<0 then max (v+(n:Int)) 0 else min v (n:Int))=(((if v<0 then (v+(n:Int)).toNat else min v.toNat n):Nat):Int)
 by_cases hv:v<0
 ·simp only[if_pos hv];omega
 ·simp only[if_neg hv];omega
theorem kKs (lo hi:Option Int) (n:Nat):Builtin.Slice.sliceAdjust lo hi 1 (n:Int)=(((sIx n 0 lo:Nat):Int),((sIx n n hi:Nat):Int)):=by
 have h1:¬ ((1:Int)<0):=by omega
 unfold Builtin.Slice.sliceAdjust
 simp only[h1,if_false]
 refine Prod.ext ?_ ?_
 ·cases lo with
  | none=>rfl
  | some v=>exact kUn v n 0
 ·cases hi with
  | none=>rfl
  | some v=>exact kUn v n n
theorem kKe (i j:Nat):Builtin.Slice.slicePlaces (i:Int) (j:Int) 1=j-i:=by
 unfold Builtin.Slice.slicePlaces
 have h1:(1:Int)>0:=by omega
 simp only[h1,if_true,Int.ediv_one]
 split<;>omega
theorem jXo {v:Value} {o:Option Int} {Q:Option Int->Shared->Prop} (p:IsPart v o) (h:Q o s):wpAny (model prog w) A (Builtin.Slice.slicePartIndex v) Q E s:=by
 cases p with
 | none=>exact slicePart_none h
 | int i t=>exact slicePart_int h
theorem jQj {sl:Addr} {vl vu:Value} {lo hi:Option Int} {n:Nat} {Q:Int×Int×Nat->Shared->Prop} (hs:s.heap.IsSliceOf sl vl vu .none) (pl:IsPart vl lo) (pu:IsPart vu hi)
  (h:Q (((sIx n 0 lo:Nat):Int),1,sIx n n hi-sIx n 0 lo) s):wpAny (model prog w) A (Builtin.Slice.sliceApplied (.ref sl) (pure (n:Int))) Q E s:=by
 obtain⟨os,hos,hcs,hds⟩:=id hs
 unfold Builtin.Slice.sliceApplied Builtin.Slice.sliceFields
 refine wpAny_bind (wpAny_bind (wpAny_field hos hds (x:=vl) rfl (wpAny_bind (wpAny_field hos hds (x:=vu) rfl (wpAny_bind (wpAny_field hos hds (x:= .none) rfl (wpAny_pure ?_)))))))
 refine wpAny_bind (slicePart_none ?_)
 show wpAny _ _ (if ((1:Int) == 0)=true then _ else _) _ _ s
 rw[if_neg (by decide)]
 refine wpAny_bind (jXo pl (wpAny_bind (jXo pu (wpAny_bind (wpAny_pure ?_)))))
 show wpAny _ _ (match Builtin.Slice.sliceAdjust lo hi 1 (n:Int) with | (lo,hi)=>pure (lo,(1:Int),Builtin.Slice.slicePlaces lo hi 1)) _ _ s
 rw[kKs lo hi n]
 show wpAny _ _ (pure (((sIx n 0 lo:Nat):Int),(1:Int),Builtin.Slice.slicePlaces ((sIx n 0 lo:Nat):Int) ((sIx n n hi:Nat):Int) 1)) _ _ s
 rw[kKe]
 exact wpAny_pure h
theorem kVn (xs:Array Value) (i k:Nat):((List.range k).filterMap fun (m:Nat)=>xs[((i:Int)+(m:Int)*1).toNat]?).toArray=((xs.toList.drop i).take k).toArray:=by
 have e:(fun (m:Nat)=>xs[((i:Int)+(m:Int)*1).toNat]?)=fun m=>xs[i+m]? :=by
  funext m
  have:((i:Int)+(m:Int)*1).toNat=i+m:=by omega
  rw[this]
 rw[e]
 have:=pick_run xs i k
 rw[List.filterMap_map] at this
 have e2:((fun x=>xs[x]?)∘fun x=>i+x)=fun m=>xs[i+m]? :=rfl
 rw[e2] at this
 rw[this]
theorem getItem_tuple_cut {t sl:Addr} {items:Array Value} {vl vu:Value} {lo hi:Option Int} {Q:Value->Shared->Prop} (ht:IsTup s.heap t items) (hs:s.heap.IsSliceOf sl vl vu .none) (pl:IsPart vl lo) (pu:IsPart vu hi)
  (hw:¬ (sIx items.size 0 lo=0/\sIx items.size items.size hi=items.size))
  (h:Q (.ref s.heap.objs.size) {s with heap:=s.heap.push {cls:= .type "tuple",data:= .seq ((items.toList.drop (sIx items.size 0 lo)).take (sIx items.size items.size hi-sIx items.size 0 lo)).toArray} })
  (hsz:items.size<=sizeLine):wpAny (model prog w) A (getItem (.ref t) (.ref sl)) Q E s:=by
 have htake:sizeOk (.seq ((items.toList.drop (sIx items.size 0 lo)).take (sIx items.size items.size hi-sIx items.size 0 lo)).toArray):=by
  show ((items.toList.drop (sIx items.size 0 lo)).take (sIx items.size items.size hi-sIx items.size 0 lo)).toArray.size<=sizeLine
  rw[List.size_toArray,List.length_take,List.length_drop,Array.length_toList]
  omega
 have hj:sIx items.size items.size hi<=items.size:=sIx_le _ _ (Nat.le_refl _) hi
 obtain⟨os,hos,hcs,hds⟩:=id hs
 have hTs:s.TypeIs (.ref sl) "slice":=⟨os,hos,hcs⟩
 unfold getItem
 try with_reducible refine wpAny_holding ?_
 first | refine wpAny_bind (wpAny_pure ?_) | skip
 refine wpAny_bind (wpAny_sequenceKey ht.typeIs (by decide) ?_)
 refine wpAny_bind (wpAny_callSpecial?_slot (name:=Str.ofString "__getitem__") ht.typeIs PyProof.Rows.slot_tuple_getitem
  (wpAny_call_entry PyProof.Rows.slot_tuple_getitem ht.typeIs entry_tuple_getitem ?_ (args_tuple_getitem _ _)))
 show wpAny _ _ (Builtin.Tuple.tupleItemsOf (.ref t) >>= _) _ _ s
 refine wpAny_bind (tupleItemsOf_ ht ?_)
 refine wpAny_bind (wpAny_typeOf hTs ?_)
 rw[if_pos (by decide)]
 refine wpAny_bind (jQj hs pl pu ?_)
 have hno:¬ ((((sIx items.size 0 lo:Nat):Int) == 0&&(1:Int) == 1&&(sIx items.size items.size hi-sIx items.size 0 lo) == items.size)=true):=by
  intro q
  rw[Bool.and_eq_true,Bool.and_eq_true] at q
  have q1:((sIx items.size 0 lo:Nat):Int)=0:=eq_of_beq q.1.1
  have q2:sIx items.size items.size hi-sIx items.size 0 lo=items.size:=eq_of_beq q.2
  exact hw ⟨by omega,by omega⟩
 show wpAny _ _ (if (((sIx items.size 0 lo:Nat):Int) == 0&&(1:Int) == 1&&(sIx items.size items.size hi-sIx items.size 0 lo) == items.size)=true then _ else _) _ _ s
 rw[if_neg hno,kVn]
 first
  | exact wpAny_bind (m:=Builtin.Tuple.tupleExact _) (wpAny_newObj_type (wpAny_pure ⟨_,rfl,wpAny_pure h⟩) htake)
  | exact wpAny_bind (m:=Builtin.Tuple.tupleExact _) (wpAny_newObj_type (wpAny_bind (wpAny_pure (wpAny_pure ⟨_,rfl,wpAny_pure h⟩))) htake)
  | exact wpAny_bind (wpAny_bind (m:=Builtin.Tuple.tupleExact _) (wpAny_newObj_type (wpAny_pure (wpAny_pure ⟨_,rfl,wpAny_pure h⟩)) htake))
  | exact wpAny_bind (wpAny_bind (m:=Builtin.Tuple.tupleExact _) (wpAny_newObj_type (wpAny_pure ⟨_,rfl,wpAny_pure h⟩) htake))
end
end HT
namespace L2
open PySem PySem.Spec PyProof.Rows
abbrev TO:=St->Hp->(Option Int->Hp->Prop)->Prop
theorem jXv {ns:List Int}:∀ {us:List Value},Vals (ns.map V.int) us->IntsAre us ns:=by
 induction ns with
 | nil=>intro us r;rw[List.map_nil] at r;cases r;exact .nil
 | cons n ns ih=>
  intro us r
  rw[List.map_cons] at r
  cases r with
  | cons r1 r2=>
   obtain⟨t,e⟩:=r1
   subst e
   exact .cons n t (ih r2)
section
variable {X:Cx} {e:Expr} {te:TE} {lo hi:Option Expr} {tl th:TO} {pos p2:Pos}
noncomputable def SlR (X:Cx) (r:V->Option Int->Option Int->Hp->VK->Prop):Prop:=
 ∀(pins:List (Addr×Obj)) (s:Shared) (σ:St) (H:Hp) (x:V) (v vl vu:Value) (lo hi:Option Int) (sl:Addr) (Q:VK),Inv X pins σ H s->RelV x v->s.heap.IsSliceOf sl vl vu .none->IsPart vl lo->IsPart vu hi->r x lo hi H Q->
  ∃T id,typeLookup (.type T) "__getitem__"=pure (some (.builtin id))/\s.TypeIs v T/\wpAny (model X.prog X.w) X.A (getItem v (.ref sl)) (EP X pins σ Q) X.xe s
def cutV (xs:List V) (lo hi:Option Int):List V:=(xs.drop (HT.sIx xs.length 0 lo)).take (HT.sIx xs.length xs.length hi-HT.sIx xs.length 0 lo)
theorem jXa (xs:List V) (lo hi:Option Int):(cutV xs lo hi).length<=xs.length:=by
 unfold cutV
 rw[List.length_take,List.length_drop]
 omega
noncomputable def rSlT (K:PySem.W.Frag):V->Option Int->Option Int->Hp->VK->Prop:=fun x lo hi H Q=>∃a xs,x= .ref a/\SqT K H a xs/\
 ¬ (HT.sIx xs.length 0 lo=0/\HT.sIx xs.length xs.length hi=xs.length)/\∀p,H p=none->Q (.ref p) (upd H p (.tup (cutV xs lo hi)))
theorem sl_tup:SlR X (rSlT X.K):=by
 intro pins s σ H x v vl vu lo hi sl Q I rx hs pl pu h
 obtain⟨a,xs,rfl,hx,hw,q⟩:=h
 cases rx
 obtain⟨its,r,ht,hz⟩:=I.tuple hx
 have hlen:its.toArray.size=xs.length:=by rw[List.size_toArray];exact r.length.symm
 refine⟨"tuple",_,PyProof.Rows.slot_tuple_getitem.lookup,ht.typeIs,?_⟩
 refine HT.getItem_tuple_cut ht hs pl pu (by rw[hlen];exact hw) ?_ (by rw[hlen];exact hz)
 rw[hlen]
 refine⟨.ref s.heap.objs.size,_,I.laid (t':=s.toks) (o:= .tup (cutV xs lo hi)) (fun b ob q=>Heap.get?_push_of_some _ q) (Nat.le_refl _) ?_,rfl,q _ (I.hok.fresh (Nat.le_refl _))⟩
 exact⟨Nat.le_trans (jXa xs lo hi) hz,_,(r.drop (HT.sIx xs.length 0 lo)).take (HT.sIx xs.length xs.length hi-HT.sIx xs.length 0 lo),TupD.new _ _⟩
noncomputable def kVl (K:PySem.W.Frag):R2:=fun x y H Q=>∃a b xs ys,x= .ref a/\y= .ref b/\SqT K H a xs/\SqT K H b ys/\xs≠[]/\xs.length+ys.length<=sizeLine/\
 (ys=[]->Q (.ref a) H)/\(ys≠[]->∀p,H p=none->Q (.ref p) (upd H p (.tup (xs++ys))))
theorem Vals.nil_iff {xs:List V} {us:List Value} (r:Vals xs us):us=[]↔xs=[]:=by
 cases r with
 | nil=>simp
 | cons _ _=>simp
theorem kYo:OpR X (binaryOp .Add) (kVl X.K):=by
 intro pins s σ H x y v u Q I rx ry h
 obtain⟨a,b,xs,ys,rfl,rfl,ha,hb,hx,hz,q1,q2⟩:=h
 cases rx
 cases ry
 obtain⟨its,r1,p1,_⟩:=I.tuple ha
 obtain⟨its2,r2,p2,_⟩:=I.tuple hb
 refine HT.cat_tup p1 p2 (fun z=>hx (r1.nil_iff.mp z)) (fun z=>⟨.ref a,H,I,rfl,q1 (r2.nil_iff.mp z)⟩) (fun z=> ?_) (by rw[<-r1.length,<-r2.length];exact hz)
 refine⟨.ref s.heap.objs.size,_,I.laid (t':=s.toks) (o:= .tup (xs++ys)) (fun b ob q=>Heap.get?_push_of_some _ q) (Nat.le_refl _) ?_,rfl,q2 (fun w=>z (r2.nil_iff.mpr w)) _ (I.hok.fresh (Nat.le_refl _))⟩
 exact⟨by rw[List.length_append];exact hz,_,r1.append r2,TupD.new _ _⟩
end
def ixN (n:Nat) (i:Int):Option Nat:=if 0<=i then (if i<n then some i.toNat else none) else if -(n:Int)<=i then some (i+n).toNat else none
def atI {α:Type} (xs:List α) (i:Int):Option α:=(ixN xs.length i).bind fun j=>xs[j]?
theorem kQy {n:Nat} {i:Int} {j:Nat} (h:ixN n i=some j):seqIndex? i n=some j/\j<n/\ -(n:Int)<=i/\i<n:=by
 unfold ixN at h
 by_cases h0:0<=i
 ·rw[if_pos h0] at h
  by_cases h1:i<n
  ·rw[if_pos h1] at h
   have e:i.toNat=j:=Option.some.inj h
   exact⟨by rw[seqIndex_of h0 h1,e],by omega,by omega,h1⟩
  ·rw[if_neg h1] at h;cases h
 ·rw[if_neg h0] at h
  by_cases h1: -(n:Int)<=i
  ·rw[if_pos h1] at h
   have e:(i+n).toNat=j:=Option.some.inj h
   exact⟨by rw[seqIndex_neg (by omega) h1,e],by omega,h1,by omega⟩
  ·rw[if_neg h1] at h;cases h
theorem kUs {α:Type} {xs:List α} {i:Int} {v:α} (h:atI xs i=some v):∃j,seqIndex? i xs.length=some j/\xs[j]? =some v/\j<xs.length/\ -(xs.length:Int)<=i/\i<xs.length:=by
 unfold atI at h
 cases e:ixN xs.length i with
 | none=>rw[e] at h;cases h
 | some j=>
  rw[e] at h
  obtain⟨h1,h2,h3,h4⟩:=kQy e
  exact⟨j,h1,h,h2,h3,h4⟩
def kZt (b:Expr):Prop:=∀o i,subscripted b false o i=operate [o,i] (getItem o i)
noncomputable def IxR (X:Cx) (r:R2):Prop:=
 ∀(value slice:Expr) (pins:List (Addr×Obj)) (s:Shared) (σ:St) (H:Hp) (x y:V) (v u:Value) (Q:VK),Inv X pins σ H s->RelV x v->RelV y u->r x y H Q->
  subscripted slice false v u=operate [v,u] (getItem v u)->wpAny (model X.prog X.w) X.A (subscriptTail value slice v u) (EP X pins σ Q) X.xe s
noncomputable def MtR (X:Cx) (id:String) (r:V->List V->Hp->VK->Prop):Prop:=
 ∀(pins:List (Addr×Obj)) (s:Shared) (σ:St) (H:Hp) (x:V) (xs:List V) (v:Value) (us:List Value) (Q:VK),Inv X pins σ H s->RelV x v->Vals xs us->r x xs H Q->
  wpAny (model X.prog X.w) X.A (call (.builtin id) (v::us)) (EP X pins σ Q) X.xe s
section
variable {X:Cx} {a b:Expr} {ta tb:TE} {pos:Pos}
theorem IxR.or {r r':R2} (h:IxR X r) (h':IxR X r'):IxR X (fun x y H Q=>r x y H Q\/r' x y H Q):=by
 intro value slice pins s σ H x y v u Q I rx ry q hs
 rcases q with q | q
 ·exact h value slice pins s σ H x y v u Q I rx ry q hs
 ·exact h' value slice pins s σ H x y v u Q I rx ry q hs
def rIxL (K:PySem.W.Frag):R2:=fun x y H Q=>∃p xs i v,x= .ref p/\y= .int i/\SqL K H p xs/\atI xs i=some v/\Q v H
def rIxT (K:PySem.W.Frag):R2:=fun x y H Q=>∃p xs i v,x= .ref p/\y= .int i/\SqT K H p xs/\atI xs i=some v/\Q v H
theorem ix_list:IxR X (rIxL X.K):=by
 intro value slice pins s σ H x y v u Q I rx ry h hs
 obtain⟨p,xs,i,z,rfl,rfl,hq,he,q⟩:=h
 cases rx
 obtain⟨t,rfl⟩:=ry
 obtain⟨its,r,pl,hz⟩:=I.list hq
 obtain⟨j,h1,h2,h3,h4,h5⟩:=kUs he
 obtain⟨w,ew,rw'⟩:=r.get h2
 have hl:=r.length
 have hn:=jXt
 have fin:EP X pins σ Q w s:=⟨z,H,I,rw',q⟩
 by_cases h0:0<=i
 ·have hj:i.toNat=j:=by
   rw[seqIndex_of h0 h5] at h1
   exact Option.some.inj h1
  exact item_listR pl.isList h0 (by omega) (by rw[hj];simpa using ew) fin hs
 ·have hj:(i+(its.toArray.size:Int)).toNat=j:=by
   rw[seqIndex_neg (by omega) h4] at h1
   rw[List.size_toArray,<-hl]
   exact Option.some.inj h1
  exact subscriptTail_builtinR (x:=w) pl.isList.typeIs slot_list_getitem.lookup
   (wpAny_getItem_list_neg (Q:=fun r s'=>r=w/\EP X pins σ Q r s') pl.isList (by omega) (by rw[List.size_toArray]<;>omega) (by omega) (by rw[hj];simpa using ew) ⟨rfl,fin⟩) hs
theorem ix_tup:IxR X (rIxT X.K):=by
 intro value slice pins s σ H x y v u Q I rx ry h hs
 obtain⟨p,xs,i,z,rfl,rfl,hq,he,q⟩:=h
 cases rx
 obtain⟨t,rfl⟩:=ry
 obtain⟨its,r,pl,hz⟩:=I.tuple hq
 obtain⟨j,h1,h2,h3,h4,h5⟩:=kUs he
 obtain⟨w,ew,rw'⟩:=r.get h2
 have hl:=r.length
 have hn:=jXt
 have fin:EP X pins σ Q w s:=⟨z,H,I,rw',q⟩
 exact subscriptTail_builtinR (x:=w) pl.typeIs slot_tuple_getitem.lookup
  (getItem_tuple (j:=j) (Q:=fun r s'=>r=w/\EP X pins σ Q r s') pl (by omega) (by omega) (by rw[List.size_toArray,<-hl];exact h1) (by simpa using ew) ⟨rfl,fin⟩) hs
theorem kKk (its:List Value) (n j:Nat) (u:Value):Obj.mapSeq (·.setIfInBounds j u) {cls:= .type "list",data:= .seq its.toArray n}={cls:= .type "list",data:= .seq (its.set j u).toArray n}:=by
 simp[Obj.mapSeq]
theorem Inv.lst {pins:List (Addr×Obj)} {σ:St} {H:Hp} {s:Shared} {p:Addr} {xs:List V} (I:Inv X pins σ H s) (h:H p=some (.lst xs)):
  ∃(its:List Value) (n:Nat),Vals xs its/\s.heap.get? p=some {cls:= .type "list",data:= .seq its.toArray n}/\xs.length<=sizeLine:=by
 obtain⟨z,its,n,r,e⟩:=I.hok p _ h
 exact⟨its,n,r,e,z⟩
theorem Inv.lstUpd {pins:List (Addr×Obj)} {σ:St} {H:Hp} {s:Shared} {p:Addr} {xs ys:List V} {its its':List Value} {n n':Nat} {f:Obj->Obj} (I:Inv X pins σ H s) (h:H p=some (.lst xs))
  (ho:s.heap.get? p=some {cls:= .type "list",data:= .seq its.toArray n}) (hf:f {cls:= .type "list",data:= .seq its.toArray n}={cls:= .type "list",data:= .seq its'.toArray n'}) (r:Vals ys its') (hz:ys.length<=sizeLine) (t:Nat):
  Inv X pins σ (upd H p (.lst ys)) {s with heap:=s.heap.update p f,toks:=t}:=by
 have e:(s.heap.update p f).get? p=some {cls:= .type "list",data:= .seq its'.toArray n'}:=by
  rw[Heap.get?_update_self f ho (by rw[hf]<;>rfl),hf]
 refine I.write (x:=p) (e:=p) (by rw[h];trivial) (.inl rfl) (fun b u hb q=>(Heap.get?_update_other _ _ (Ne.symm hb)).trans q) ⟨_,e⟩ ?_
 exact⟨hz,its',n',r,e⟩
def kVj:V->V->V->Hp->(Hp->Prop)->Prop:=fun o i v H Q=>∃p xs k j,o= .ref p/\i= .int k/\H p=some (.lst xs)/\ixN xs.length k=some j/\Q (upd H p (.lst (xs.set j v)))
theorem kU9:PSet X kVj:=by
 intro pins s σ H o i v ov iv u Q I ro ri rv h
 obtain⟨p,xs,k,j,rfl,rfl,hp,hj,q⟩:=h
 cases ro
 obtain⟨t,rfl⟩:=ri
 obtain⟨its,n,r,ho,hz⟩:=I.lst hp
 obtain⟨h1,h2,h3,h4⟩:=kQy hj
 have hl:=r.length
 have hn:=jXt
 have I':Inv X pins σ (upd H p (.lst (xs.set j v))) {s with heap:=s.heap.update p (Obj.mapSeq (·.setIfInBounds j u))}:=
  I.lstUpd hp ho (kKk its n j u) (r.set rv j) (by rw[List.length_set];exact hz) s.toks
 by_cases h0:0<=k
 ·have hk:k.toNat=j:=by
   rw[seqIndex_of h0 h4] at h1
   exact Option.some.inj h1
  exact PySem.W.ki_setAt ho h0 (by omega) (by rw[List.size_toArray,<-hl];exact h4) (by rw[hk];exact⟨_,I',q⟩)
 ·have hk:(k+(its.toArray.size:Int)).toNat=j:=by
   rw[seqIndex_neg (by omega) h3] at h1
   rw[List.size_toArray,<-hl]
   exact Option.some.inj h1
  exact PySem.W.ki_setBack ho (by omega) (by rw[List.size_toArray,<-hl];exact h3) (by omega) (by rw[hk];exact⟨_,I',q⟩)
theorem jYx (lo hi:Option Int) (n:Nat):(sliceBounds lo hi none n).1=((HT.sIx n 0 lo:Nat):Int)/\(sliceBounds lo hi none n).2.1=((HT.sIx n n hi:Nat):Int)/\(sliceBounds lo hi none n).2.2=1:=by
 refine⟨?_,?_,rfl⟩
 ·cases lo with
  | none=>simp[sliceBounds,HT.sIx]
  | some i=>
   simp only[sliceBounds,HT.sIx,Option.getD_none,show (1:Int)>0 by decide,if_true]
   by_cases h:i<0
   ·simp only[h,if_true]<;>omega
   ·simp only[h,if_false]<;>omega
 ·cases hi with
  | none=>simp[sliceBounds,HT.sIx]
  | some i=>
   simp only[sliceBounds,HT.sIx,Option.getD_none,show (1:Int)>0 by decide,if_true]
   by_cases h:i<0
   ·simp only[h,if_true]<;>omega
   ·simp only[h,if_false]<;>omega
theorem jX7 (its:List Value) (lo hi:Option Int):slicePick its.toArray lo hi none=((its.drop (HT.sIx its.length 0 lo)).take (HT.sIx its.length its.length hi-HT.sIx its.length 0 lo)).toArray:=by
 obtain⟨h1,h2,h3⟩:=jYx lo hi its.toArray.size
 unfold slicePick
 rw[h1,h2,h3]
 simp only[sliceRange_one,pick_run,List.size_toArray]<;>rfl
def rSlL (K:PySem.W.Frag):V->Option Int->Option Int->Hp->VK->Prop:=fun x lo hi H Q=>∃a xs,x= .ref a/\SqL K H a xs/\∀p,H p=none->Q (.ref p) (upd H p (.lst (cutV xs lo hi)))
theorem kYc:SlR X (rSlL X.K):=by
 intro pins s σ H x v vl vu lo hi sl Q I rx hs pl pu h
 obtain⟨a,xs,rfl,hx,q⟩:=h
 cases rx
 obtain⟨its,r,ht,hz⟩:=I.list hx
 have hlen:=r.length
 refine⟨"list",_,slot_list_getitem.lookup,ht.isList.typeIs,?_⟩
 refine wpAny_getItem_list_slice ht.isList hs pl pu .none (by simp) ?_ (by rw[List.size_toArray]<;>omega)
 rw[jX7,<-hlen]
 refine⟨.ref s.heap.objs.size,_,I.laid (t':=s.toks) (o:= .lst (cutV xs lo hi)) (fun b ob q=>Heap.get?_push_of_some _ q) (Nat.le_refl _) ?_,rfl,q _ (I.hok.fresh (Nat.le_refl _))⟩
 exact⟨Nat.le_trans (jXa xs lo hi) hz,_,0,(r.drop (HT.sIx xs.length 0 lo)).take (HT.sIx xs.length xs.length hi-HT.sIx xs.length 0 lo),Heap.get?_push_size _ rfl⟩
def jXm:V->Bool
 | .non=>true
 | .bl _=>true
 | .int _=>true
 | .str _=>true
 | _=>false
noncomputable def eqV:V->V->Bool
 | .non,.non=>true
 | .bl a,.bl b=>a == b
 | .bl a,.int b=>(if a then 1 else 0) == b
 | .int a,.bl b=>a == (if b then 1 else 0)
 | .int a,.int b=>a == b
 | .str a,.str b=>a == b
 | _,_=>false
theorem eqAt_V {A:Around} {s:Shared} {y x:V} {u v:Value} (ry:RelV y u) (rx:RelV x v) (fy:jXm y=true) (fx:jXm x=true):SeqAt.EqAt A s u v (eqV y x):=by
 cases y with
 | non=>
  cases ry
  cases x with
  | non=>cases rx;exact SeqAt.EqAt.same _
  | bl b=>cases rx;exact SeqAt.EqAt.none_bool b
  | int b=>obtain⟨t,rfl⟩:=rx;exact SeqAt.EqAt.none_int b t
  | str b=>obtain⟨t,rfl⟩:=rx;exact SeqAt.EqAt.none_str b t
  | _=>exact absurd (show false=true from fx) Bool.false_ne_true
 | bl a=>
  cases ry
  cases x with
  | non=>cases rx;exact SeqAt.EqAt.bool_none a
  | bl b=>cases rx;exact SeqAt.EqAt.bool_bool a b
  | int b=>obtain⟨t,rfl⟩:=rx;exact SeqAt.EqAt.bool_int a b t
  | str b=>obtain⟨t,rfl⟩:=rx;exact SeqAt.EqAt.bool_str a b t
  | _=>exact absurd (show false=true from fx) Bool.false_ne_true
 | int a=>
  obtain⟨t',rfl⟩:=ry
  cases x with
  | non=>cases rx;exact SeqAt.EqAt.int_none a t'
  | bl b=>cases rx;exact SeqAt.EqAt.int_bool a t' b
  | int b=>obtain⟨t,rfl⟩:=rx;exact SeqAt.EqAt.int_int a t' b t
  | str b=>obtain⟨t,rfl⟩:=rx;exact SeqAt.EqAt.int_str a t' b t
  | _=>exact absurd (show false=true from fx) Bool.false_ne_true
 | str a=>
  obtain⟨t',rfl⟩:=ry
  cases x with
  | non=>cases rx;exact SeqAt.EqAt.str_none a t'
  | bl b=>cases rx;exact SeqAt.EqAt.str_bool a t' b
  | int b=>obtain⟨t,rfl⟩:=rx;exact SeqAt.EqAt.str_int a t' b t
  | str b=>obtain⟨t,rfl⟩:=rx;exact SeqAt.EqAt.str_str a t' b t
  | _=>exact absurd (show false=true from fx) Bool.false_ne_true
 | _=>exact absurd (show false=true from fy) Bool.false_ne_true
def eqU (x:V) (u:Value):Bool:=match u with
 | .none=>eqV .non x
 | .bool b=>eqV (.bl b) x
 | .int i _=>eqV (.int i) x
 | .str z _=>eqV (.str z) x
 | _=>false
theorem kUa {x y:V} {u:Value} (r:RelV y u) (f:jXm y=true):eqU x u=eqV y x:=by
 cases y with
 | non=>cases r;rfl
 | bl b=>cases r;rfl
 | int i=>obtain⟨t,rfl⟩:=r;rfl
 | str z=>obtain⟨t,rfl⟩:=r;rfl
 | _=>exact absurd (show false=true from f) Bool.false_ne_true
theorem kJf {x:V}:∀ {xs:List V} {us:List Value},Vals xs us->xs.all jXm=true->us.any (eqU x)=xs.any fun y=>eqV y x
 | _,_,.nil,_=>rfl
 | y::xs,u::us,.cons r t,f=>by
  rw[List.all_cons,Bool.and_eq_true] at f
  rw[List.any_cons,List.any_cons,kUa r f.1,kJf t f.2]
theorem jVp {A:Around} {s:Shared} {x:V} {v:Value} (rx:RelV x v) (fx:jXm x=true):∀ {xs:List V} {us:List Value},Vals xs us->xs.all jXm=true->∀u∈us,SeqAt.EqAt A s u v (eqU x u)
 | _,_,.nil,_=>fun u hu=>by cases hu
 | y::xs,u::us,.cons r t,f=>fun u' hu=>by
  rw[List.all_cons,Bool.and_eq_true] at f
  rcases (List.mem_cons.mp hu) with rfl | hu
  ·rw[kUa r f.1];exact eqAt_V r rx f.1 fx
  ·exact jVp rx fx t f.2 u' hu
def inV (x:V) (xs:List V):Bool:=xs.any fun y=>eqV y x
def rIn (K:PySem.W.Frag) (neg:Bool):R2:=fun x y H Q=>∃p xs,y= .ref p/\(SqL K H p xs\/SqT K H p xs)/\jXm x=true/\xs.all jXm=true/\Q (.bl (if neg then !inV x xs else inV x xs)) H
theorem jY2:OpR X (compareOp .NotIn) (rIn X.K true):=by
 intro pins s σ H x y v u Q I rx ry h
 obtain⟨p,xs,rfl,hq,fx,fs,q⟩:=h
 cases ry
 rcases hq with hq | hq
 ·obtain⟨its,r,pl,hz⟩:=I.list hq
  refine SeqAt.notIn_listAt (eqU x) pl.isList (fun w hw=>jVp rx fx r fs w (by simpa using hw)) ⟨.bl _,H,I,rfl,?_⟩
  rw[show its.toArray.any (eqU x)=its.any (eqU x) by simp,kJf r fs]
  exact q
 ·obtain⟨its,r,pl,hz⟩:=I.tuple hq
  refine SeqAt.notIn_tupleAt (eqU x) pl (fun w hw=>jVp rx fx r fs w (by simpa using hw)) ⟨.bl _,H,I,rfl,?_⟩
  rw[show its.toArray.any (eqU x)=its.any (eqU x) by simp,kJf r fs]
  exact q
theorem jZh:jZr X (.builtin "len") (fun xs H Q=>∃p ys,xs=[.ref p]/\(SqL X.K H p ys\/SqT X.K H p ys)/\Q (.int ys.length) H):=by
 intro pins s σ H xs us Q I r h
 obtain⟨p,ys,rfl,hq,q⟩:=h
 obtain⟨u,rfl,rx⟩:=kJ7 r
 cases rx
 have hn:=jXt
 rcases hq with hq | hq
 ·obtain⟨its,r',pl,hz⟩:=I.list hq
  have hlen:=r'.length
  exact Calls.call_len_list pl.isList (by simp only[List.size_toArray]<;>omega) ⟨.int ys.length,H,I.tok _,⟨s.toks+1,by rw[List.size_toArray,hlen]⟩,q⟩
 ·obtain⟨its,r',pl,hz⟩:=I.tuple hq
  have hlen:=r'.length
  exact len_tuple pl (by simp only[List.size_toArray]<;>omega) ⟨.int ys.length,H,I.tok _,⟨s.toks+1,by rw[List.size_toArray,hlen]⟩,q⟩
theorem jYt:jZr X (.type "tuple") (fun xs H Q=>∃p ys,xs=[.ref p]/\((SqL X.K H p ys/\∀l,H l=none->Q (.ref l) (upd H l (.tup ys)))\/(SqT X.K H p ys/\Q (.ref p) H))):=by
 intro pins s σ H xs us Q I r h
 obtain⟨p,ys,rfl,h⟩:=h
 obtain⟨u,rfl,rx⟩:=kJ7 r
 cases rx
 rcases h with ⟨hq,q⟩ | ⟨hq,q⟩
 ·obtain⟨its,r',pl,hz⟩:=I.list hq
  have hlen:=r'.length
  refine call_tuple_list pl.isList (fun h' kp=> ?_) (by simp only[List.size_toArray]<;>omega)
  have I1:Inv X pins σ H {s with heap:=h'}:=I.kept (t':=s.toks) kp
  have I2:Inv X pins σ (upd H h'.objs.size (.tup ys)) {s with heap:=h'.push {cls:= .type "tuple",data:= .seq its.toArray} }:=
   I1.laid (t':=s.toks) (fun b o e=>Heap.get?_push_of_some _ e) (Nat.le_refl _) (show ObjOk X.prog X.w _ _ _ (.tup ys) from⟨hz,its,r',TupD.new _ _⟩)
  exact⟨.ref h'.objs.size,_,I2,rfl,q _ (I1.hok.fresh (Nat.le_refl _))⟩
 ·obtain⟨its,r',pl,hz⟩:=I.tuple hq
  exact call_tuple_same pl ⟨.ref p,H,I,rfl,q⟩
noncomputable def tyV (K:PySem.W.Frag) (T:String) (x:V) (H:Hp):Prop:=match x with
 | .str _=>T="str"
 | .int _=>T="int"
 | .ref p=>(T="list"/\∃xs,SqL K H p xs)\/(T="tuple"/\∃o,K.lookup p=some o/\o.cls= .type "tuple"/\o.dict=none)\/
   (T="dict"/\((∃kvs,H p=some (.dK kvs))\/∃kvs,H p=some (.dT kvs)))\/(T="set"/\∃S n,H p=some (.set S n))
 | _=>False
theorem tyV_is {pins:List (Addr×Obj)} {σ:St} {H:Hp} {s:Shared} {T:String} {x:V} {v:Value} (I:Inv X pins σ H s) (r:RelV x v) (ty:tyV X.K T x H):
  s.TypeIs v T/\∀a,v= .ref a->∃ob,s.heap.get? a=some ob/\ob.dict=none:=by
 cases x with
 | str z=>
  obtain⟨t,rfl⟩:=r
  cases (show T="str" from ty)
  exact⟨typeIs_str s z t,fun _ e=>nomatch e⟩
 | int i=>
  obtain⟨t,rfl⟩:=r
  cases (show T="int" from ty)
  exact⟨typeIs_int s i t,fun _ e=>nomatch e⟩
 | ref p=>
  cases r
  rcases ty with ⟨rfl,xs,hq⟩ | ⟨rfl,o,hk,hc,hd⟩ | ⟨rfl,hk⟩ | ⟨rfl,S,n,hk⟩
  ·obtain⟨its,_,pl,_⟩:=I.list hq
   refine⟨pl.isList.typeIs,fun a e=> ?_⟩
   cases e
   obtain⟨o,n,e,c,hd,_⟩:=pl
   exact⟨o,e,hd⟩
  ·refine⟨⟨o,I.kIn p o hk,hc⟩,fun a e=> ?_⟩
   cases e
   exact⟨o,I.kIn _ o hk,hd⟩
  ·have z:∃o,s.heap.get? p=some o/\o.ExactDict:=by
    rcases hk with ⟨kvs,hk⟩ | ⟨kvs,hk⟩
    ·obtain⟨_,_,_,_,o,_,_,e,ex,_⟩:=I.hok p _ hk
     exact⟨o,e,ex⟩
    ·obtain⟨_,_,_,_,o,_,_,e,ex,_⟩:=I.hok p _ hk
     exact⟨o,e,ex⟩
   obtain⟨o,e,ex⟩:=z
   refine⟨⟨o,e,ex.1⟩,fun a e2=> ?_⟩
   cases e2
   exact⟨o,e,ex.2.1⟩
  ·obtain⟨o,_,_,_,e,ex,_⟩:=I.hok p _ hk
   refine⟨⟨o,e,ex.1⟩,fun a e2=> ?_⟩
   cases e2
   exact⟨o,e,ex.2.1⟩
 | _=>exact False.elim ty
variable {o e:Expr} {es:List Expr} {to:TE} {t:TA} {name:Str} {apos cpos:Pos} {T id:String} {r:V->List V->Hp->VK->Prop}
end
noncomputable def MtM (X:Cx) (id:String) (r:V->List V->Hp->VK->Prop):Prop:=
 ∀(pins:List (Addr×Obj)) (s:Shared) (σ:St) (H:Hp) (x:V) (xs:List V) (v:Value) (us:List Value) (Q:VK),Inv X pins σ H s->RelV x v->Vals xs us->r x xs H Q->
  wpAny (model X.prog X.w) X.A (call (.builtin id) (v::us)) (EP X pins σ Q) X.xe s
theorem Vals.one {x:V} {us:List Value} (h:Vals [x] us):∃u,us=[u]/\RelV x u:=by
 cases h with | cons r t=>(cases t;exact⟨_,rfl,r⟩)
theorem Vals.two {x y:V} {us:List Value} (h:Vals [x,y] us):∃u v,us=[u,v]/\RelV x u/\RelV y v:=by
 cases h with | cons r t=>(cases t with | cons q t=>(cases t;exact⟨_,_,rfl,r,q⟩))
theorem Vals.rep {xs:List V} {us:List Value} (h:Vals xs us):∀k:Nat,Vals (List.replicate k xs).flatten (List.replicate k us).flatten
 | 0=> .nil
 | k+1=>by
  rw[List.replicate_succ,List.replicate_succ,List.flatten_cons,List.flatten_cons]
  exact Vals.append h (Vals.rep h k)
theorem jZa (its:List Value):∀(k:Nat) (acc:List Value),
  List.foldl (fun x1 x2=>x1++x2) acc.toArray (List.replicate k its.toArray)=(acc++(List.replicate k its).flatten).toArray
 | 0,acc=>by simp
 | k+1,acc=>by
  have e:acc.toArray++its.toArray=(acc++its).toArray:=by simp
  have e2:(acc++its)++(List.replicate k its).flatten=acc++(List.replicate (k+1) its).flatten:=by
   rw[List.replicate_succ,List.flatten_cons,List.append_assoc]
  rw[<-e2,<-jZa its k (acc++its),<-e,List.replicate_succ,List.foldl_cons]
section
variable {X:Cx} {pins:List (Addr×Obj)} {σ:St} {H:Hp} {s:Shared} {l b:Addr} {xs ys zs:List V}
theorem Inv.lset {its its':List Value} {n:Nat} {f:Array Value->Array Value} {t':Nat} (I:Inv X pins σ H s) (hH:H l=some (.lst xs))
  (e:s.heap.get? l=some {cls:= .type "list",data:= .seq its.toArray n}) (hf:f its.toArray=its'.toArray) (hv:Vals ys its') (hz:ys.length<=sizeLine):
  Inv X pins σ (upd H l (.lst ys)) {s with heap:=s.heap.update l (Obj.mapSeq f),toks:=t'}:=by
 have q:=PySem.IsL.update e f
 rw[hf] at q
 refine I.write (x:=l) (e:=l) (by rw[hH];exact trivial) (.inl rfl) (fun b' u hb hu=>(Heap.get?_update_other s.heap (Obj.mapSeq f) (Ne.symm hb)).trans hu) ⟨_,q⟩ ?_
 exact⟨hz,its',_,hv,q⟩
theorem Inv.lnew {its:List Value} {t':Nat} (I:Inv X pins σ H s) (hv:Vals ys its) (hz:ys.length<=sizeLine):
  Inv X pins σ (upd H s.heap.objs.size (.lst ys)) {s with heap:=s.heap.push {cls:= .type "list",data:= .seq its.toArray},toks:=t'}:=
 I.laid (fun _ _ q=>Heap.get?_push_of_some _ q) (Nat.le_refl _) ⟨hz,its,0,hv,Heap.get?_push_size _ rfl⟩
theorem Inv.fresh (I:Inv X pins σ H s):H s.heap.objs.size=none:=I.hok.fresh (Nat.le_refl _)
theorem Inv.lstM (I:Inv X pins σ H s) (hH:H l=some (.lst xs)):xs.length<=sizeLine/\∃(its:List Value) (n:Nat),Vals xs its/\xs.length=its.length/\s.heap.get? l=some {cls:= .type "list",data:= .seq its.toArray n}:=by
 obtain⟨z,its,n,r,e⟩:=I.hok l _ hH
 exact⟨z,its,n,r,r.length,e⟩
theorem kVt {n:Nat} (h:n<=sizeLine):Builtin.List.listTooLong n=false:=by
 unfold Builtin.List.listTooLong
 exact decide_eq_false (by omega)
end
section
variable {X:Cx}
def jKx:V->List V->Hp->VK->Prop:=fun x vs H Q=>∃l xs y,x= .ref l/\vs=[y]/\H l=some (.lst xs)/\xs.length<sizeLine/\Q .non (upd H l (.lst (xs++[y])))
theorem kQr:MtM X "list.append" jKx:=by
 intro pins s σ H x vs v us Q I rx rv h
 obtain⟨l,xs,y,rfl,rfl,hH,hz,q⟩:=h
 cases rx
 obtain⟨u,rfl,ru⟩:=rv.one
 obtain⟨z,its,n,r,hl,e⟩:=I.lstM hH
 refine call_meets F.slot_list_append ⟨_,e,rfl⟩ F.entry_list_append (F.args_list_append_2 _ _) (PySem.list_append l its.toArray n u (by rw[List.size_toArray];omega)) ⟨e,?_⟩
 refine⟨.non,_,I.lset (its':=its++[u]) hH e (by simp) (r.append (.cons ru .nil)) ?_,rfl,q⟩
 rw[List.length_append,List.length_singleton]
 omega
noncomputable def rCat:R2:=fun x y H Q=>∃l b xs zs,x= .ref l/\y= .ref b/\H l=some (.lst xs)/\H b=some (.lst zs)/\xs.length+zs.length<=sizeLine/\∀p,H p=none->Q (.ref p) (upd H p (.lst (xs++zs)))
theorem op_cat:OpR X (binaryOp .Add) rCat:=by
 intro pins s σ H x y v u Q I rx ry h
 obtain⟨l,b,xs,zs,rfl,rfl,hH,hB,hz,q⟩:=h
 cases rx
 cases ry
 obtain⟨z,its,n,r,hl,e⟩:=I.lstM hH
 obtain⟨z2,its2,n2,r2,hl2,e2⟩:=I.lstM hB
 refine PySem.P.add_list e e2 ?_ (by rw[List.size_toArray,List.size_toArray];omega)
 have ea:its.toArray++its2.toArray=(its++its2).toArray:=by simp
 rw[ea]
 exact⟨.ref _,_,I.lnew (t':=s.toks) (r.append r2) (by rw[List.length_append];omega),rfl,q _ I.fresh⟩
noncomputable def rRep:R2:=fun x y H Q=>∃l k xs,x= .ref l/\y= .int k/\H l=some (.lst xs)/\ -(2^63)<=k/\k<2^63/\xs.length*k.toNat<=sizeLine/\
 ∀p,H p=none->Q (.ref p) (upd H p (.lst (List.replicate k.toNat xs).flatten))
theorem kYy {α:Type} (xs:List α) (k:Nat):(List.replicate k xs).flatten.length=k*xs.length:=by
 induction k with
 | zero=>simp
 | succ k ih=>rw[List.replicate_succ,List.flatten_cons,List.length_append,ih,Nat.succ_mul,Nat.add_comm]
theorem op_rep:OpR X (binaryOp .Mult) rRep:=by
 intro pins s σ H x y v u Q I rx ry h
 obtain⟨l,k,xs,rfl,rfl,hH,h1,h2,hz,q⟩:=h
 cases rx
 obtain⟨t,rfl⟩:=ry
 obtain⟨z,its,n,r,hl,e⟩:=I.lstM hH
 have hlen:its.toArray.size*k.toNat<=sizeLine:=by rw[List.size_toArray,<-hl];exact hz
 have hcap:¬ its.toArray.size*k.toNat>(2^63-1) / 8:=by
  have:(sizeLine:Nat)<=(2^63-1) / 8:=by decide
  omega
 have hfit:¬ (!Builtin.List.listFitsIndex k)=true:=by
  rw[fitsIndex_both h1 h2]
  exact Bool.false_ne_true
 have hlong:¬ Builtin.List.listTooLong (its.toArray.size*k.toNat)=true:=by
  rw[kVt hlen]
  exact Bool.false_ne_true
 have hnew:List.foldl (fun x1 x2=>x1++x2) #[] (List.replicate (if its.toArray.isEmpty=true then 0 else k.toNat) its.toArray)=(List.replicate k.toNat its).flatten.toArray:=by
  have f0:∀m:Nat,List.foldl (fun x1 x2=>x1++x2) #[] (List.replicate m its.toArray)=(List.replicate m its).flatten.toArray:=fun m=>by
   have:=jZa its m []
   rw[List.nil_append] at this
   exact this
  rw[f0]
  cases its with
  | nil=>simp
  | cons a r'=>rw[if_neg (by simp)]
 refine wpAny_binaryOp_repeat_ref (T:="list") (U:="int") (by decide) ⟨_,e,rfl⟩ (fun s'=>typeIs_int s' k t) noFill_list_mul F.fills_int_mul F.slot_int_rmul repeat_list F.slot_int_index.lookup
  (call_meets F.slot_int_rmul (typeIs_int s k t) F.entry_int_rmul (F.args_int_rmul_2 _ _) (int___rmul___int_list k t l its.toArray n)
   ⟨e,rfl,⟨_,e,rfl⟩,call_meets F.slot_list_mul ⟨_,e,rfl⟩ F.entry_list_mul (F.args_list_mul_2 _ _) (AutoListH.list___mul___list_int_3 l its.toArray n k t hfit hcap hlong) ⟨e,?_⟩⟩)
 rw[hnew]
 exact⟨.ref _,_,I.lnew (t':=s.toks) (r.rep k.toNat) (by rw[kYy,Nat.mul_comm];exact hz),rfl,q _ I.fresh⟩
end
section
variable {prog:Program} {w:World} {A:Around} {E:Value->Shared->Prop} {s:Shared}
end
section
variable {X:Cx}
end
section
variable {κ:Type} [DecidableEq κ]
def valV (kvs:List (κ×V)) (k:κ):Option V:=(kvs.find? fun kv=>decide (kv.1=k)).map (·.2)
def putK (kvs:List (κ×V)) (k:κ) (v:V):List (κ×V):=
 if (kvs.any fun kv=>decide (kv.1=k))=true then kvs.map (fun kv=>if kv.1=k then (kv.1,v) else kv) else kvs++[(k,v)]
theorem jVj {p:κ×V} {r:List (κ×V)} {k:κ} (e:p.1=k):valV (p::r) k=some p.2:=by simp[valV,List.find?_cons,e]
theorem jVk {p:κ×V} {r:List (κ×V)} {k:κ} (e:¬ p.1=k):valV (p::r) k=valV r k:=by simp[valV,List.find?_cons,e]
theorem kJk (k:κ):∀kvs:List (κ×V),(kvs.any fun kv=>decide (kv.1=k))=(valV kvs k).isSome
 | []=>rfl
 | p::r=>by
  rw[List.any_cons]
  by_cases e:p.1=k
  ·simp only[jVj e,decide_eq_true e,Bool.true_or,Option.isSome_some]
  ·rw[jVk e,decide_eq_false e,Bool.false_or];exact kJk k r
theorem jV7 (kvs:List (κ×V)) (k:κ) (v:V):(putK kvs k v).length<=kvs.length+1:=by
 unfold putK
 split
 ·rw[List.length_map];omega
 ·rw[List.length_append,List.length_cons,List.length_nil];omega
theorem RelO.isSome_eq {o:Option V} {u:Option Value} (r:RelO o u):o.isSome=u.isSome:=by
 cases o with
 | none=>cases u with
  | none=>rfl
  | some _=>exact (show False from r).elim
 | some _=>cases u with
  | none=>exact (show False from r).elim
  | some _=>rfl
theorem KV.val {kvs:List (κ×V)} {vs:List (κ×Value)} (r:KV kvs vs) (k:κ):RelO (valV kvs k) (valueAt vs k):=by
 unfold KV at r
 induction r with
 | nil=>exact True.intro
 | @cons p q ps qs h t ih=>
  obtain⟨h1,h2⟩:=h
  by_cases e:p.1=k
  ·have e':q.1=k:=h1.symm.trans e
   have b:valueAt (q::qs) k=some q.2:=by simp[valueAt,List.find?_cons,e']
   rw[jVj e,b];exact h2
  ·have e':¬ q.1=k:=fun z=>e (h1.trans z)
   have b:valueAt (q::qs) k=valueAt qs k:=by simp[valueAt,List.find?_cons,e']
   rw[jVk e,b];exact ih
theorem KV.any {kvs:List (κ×V)} {vs:List (κ×Value)} (r:KV kvs vs) (k:κ):(kvs.any fun kv=>decide (kv.1=k))=vs.any fun kv=>decide (kv.1=k):=by
 unfold KV at r
 induction r with
 | nil=>rfl
 | cons h t ih=>rw[List.any_cons,List.any_cons,ih,h.1]
theorem KV.repl {kvs:List (κ×V)} {vs:List (κ×Value)} (r:KV kvs vs) (k:κ) {y:V} {u:Value} (ry:RelV y u):
  KV (kvs.map fun kv=>if kv.1=k then (kv.1,y) else kv) (vs.map fun kv=>if kv.1=k then (kv.1,u) else kv):=by
 unfold KV at r ⊢
 induction r with
 | nil=>exact .nil
 | @cons p q ps qs h t ih=>
  rw[List.map_cons,List.map_cons]
  refine .cons ?_ ih
  obtain⟨h1,h2⟩:=h
  by_cases e:p.1=k
  ·rw[if_pos e,if_pos (h1.symm.trans e)];exact⟨h1,ry⟩
  ·rw[if_neg e,if_neg (fun z=>e (h1.trans z))];exact⟨h1,h2⟩
theorem KV.put {kvs:List (κ×V)} {vs:List (κ×Value)} (r:KV kvs vs) (k:κ) {y:V} {u:Value} (ry:RelV y u):KV (putK kvs k y) (stored vs k u):=by
 unfold putK stored
 rw[r.any k]
 by_cases e:(vs.any fun kv=>decide (kv.1=k))=true
 ·rw[if_pos e,if_pos e];exact r.repl k ry
 ·rw[if_neg e,if_neg e];exact Paired.snoc r ⟨rfl,ry⟩
theorem KV.length {kvs:List (κ×V)} {vs:List (κ×Value)} (r:KV kvs vs):kvs.length=vs.length:=Paired.length r
end
theorem jZ4 {P:Program} {w:World} {k:Key} {u:Value} (r:RelV (kV k) u):(jJ2 P w).is k u=true:=by
 cases k with
 | inl i=>obtain⟨t,e⟩:=(show ∃t,u=Value.int i t from r);subst e;exact jZ3 P w i t
 | inr x=>obtain⟨t,e⟩:=(show ∃t,u=Value.str x t from r);subst e;exact jZ2 P w x t
abbrev KT (H:Hp):List (TKey×V)->List (TKey×Addr×Value)->Prop:=Paired fun p q=>p.1=q.1/\TKeyAt H p.1 q.2.1/\RelV p.2 q.2.2
theorem KT.val {H:Hp} {kvs:List (TKey×V)} {xs:List (TKey×Addr×Value)} (r:KT H kvs xs) (k:TKey):RelO (valV kvs k) ((atKey xs k).map (·.2)):=by
 induction r with
 | nil=>exact True.intro
 | @cons p q ps qs h t ih=>
  obtain⟨h1,_,h2⟩:=h
  by_cases e:p.1=k
  ·have e':q.1=k:=h1.symm.trans e
   have b:atKey (q::qs) k=some q.2:=by simp[atKey,List.find?_cons,e']
   rw[jVj e,b];exact h2
  ·have e':¬ q.1=k:=fun z=>e (h1.trans z)
   have b:atKey (q::qs) k=atKey qs k:=by simp[atKey,List.find?_cons,e']
   rw[jVk e,b];exact ih
theorem KT.repl {H:Hp} {kvs:List (TKey×V)} {xs:List (TKey×Addr×Value)} (r:KT H kvs xs) (k:TKey) {y:V} {u:Value} (ry:RelV y u):
  KT H (kvs.map fun kv=>if kv.1=k then (kv.1,y) else kv) (xs.map (putAt k u)):=by
 induction r with
 | nil=>exact .nil
 | @cons p q ps qs h t ih=>
  rw[List.map_cons,List.map_cons]
  refine .cons ?_ ih
  obtain⟨h1,h2,h3⟩:=h
  unfold putAt
  by_cases e:p.1=k
  ·rw[if_pos e,if_pos (h1.symm.trans e)];exact⟨h1,h2,ry⟩
  ·rw[if_neg e,if_neg (fun z=>e (h1.trans z))];exact⟨h1,h2,h3⟩
theorem KT.put {H:Hp} {kvs:List (TKey×V)} {xs:List (TKey×Addr×Value)} (r:KT H kvs xs) (k:TKey) {b:Addr} {y:V} {u:Value} (hb:TKeyAt H k b) (ry:RelV y u):
  KT H (putK kvs k y) (storedH xs k b u):=by
 have e:(kvs.any fun kv=>decide (kv.1=k))=(atKey xs k).isSome:=by
  rw[kJk,(r.val k).isSome_eq,Option.isSome_map]
 unfold putK storedH
 rw[e]
 by_cases q:(atKey xs k).isSome=true
 ·rw[if_pos q,if_pos q];exact r.repl k ry
 ·rw[if_neg q,if_neg q];exact Paired.snoc r ⟨rfl,hb,ry⟩
theorem KT.keeps {H H':Hp} {kvs:List (TKey×V)} {xs:List (TKey×Addr×Value)} (r:KT H kvs xs) (ht:∀b ys,H b=some (.tup ys)->H' b=some (.tup ys)):KT H' kvs xs:=
 Paired.mapP r fun _ _ z=>⟨z.1,z.2.1.mono ht,z.2.2⟩
section
variable {P:Program} {w:World} {H:Hp} {h:Heap} {a:Addr}
theorem rd_of {u:HO} (ok:HOk P w H h) (e:Rd H a u):ObjOk P w H h a u:=e.ok ok
theorem kXg {kvs:List (Key×V)} (ok:HOk P w H h) (e:Rd H a (.dK kvs)):kvs.length<=sizeLine/\(a == sysModules)=false/\∃vs,KV kvs vs/\h.DictOf (jJ2 P w) a vs:=
 show ObjOk P w H h a (.dK kvs) from rd_of ok e
theorem dk_of {kvs:List (Key×V)} (ok:HOk P w H h) (e:H a=some (.dK kvs)):kvs.length<=sizeLine/\(a == sysModules)=false/\∃vs,KV kvs vs/\h.DictOf (jJ2 P w) a vs:=kXg ok (.inl e)
theorem kJx {K:Type} [DecidableEq K] {c:Nat} {T:KeyV P w K c} {R:K->V->Prop} (hR:∀k x u,R k x->RelV x u->T.is h k u):∀ {ks:List K} {xs:List V} {us:List Value},Paired R ks xs->Vals xs us->ItemsV T h ks us
 | _,_,_,.nil,.nil=> .nil
 | _,_,_,.cons r t,.cons q z=> .cons (hR _ _ _ r q) (kJx hR t z)
theorem jZu {K:Type} [DecidableEq K] {c:Nat} {T:KeyV P w K c} {R:K->V->Prop} {ks:List K} {xs:List V} {p:Addr} (ok:HOk P w H h) (hR:∀k x u,R k x->RelV x u->T.is h k u) (e:H p=some (.tup xs)) (r:Paired R ks xs):kUx T h ks (.ref p):=by
 obtain⟨_,its,q,o,h1,h2,n,h3,_⟩:=(show ObjOk P w H h p (.tup xs) from ok p _ e)
 exact⟨p,o,its.toArray,n,rfl,h1,h2,h3,by simpa using kJx hR r q⟩
theorem r1_of (ok:HOk P w H h) (k:K1) (x:V) (u:Value) (r:Rk1 H k x) (q:RelV x u):(vk1 P w).is h k u:=by
 cases k with
 | inl k=>cases (show x=kV k from r);exact jZ4 (P:=P) (w:=w) q
 | inr ks=>
  obtain⟨p,vs,rfl,e,t⟩:=(show ∃p vs,x= .ref p/\H p=some (.tup vs)/\Paired (fun k v=>v=kV k) ks vs from r)
  cases (show u=Value.ref p from q)
  exact jZu (T:=kJ5 P w) ok (fun k x u r q=>by subst r;exact jZ4 (P:=P) (w:=w) q) e t
theorem r2_of (ok:HOk P w H h) (k:K2) (x:V) (u:Value) (r:Rk2 H k x) (q:RelV x u):(vk2 P w).is h k u:=by
 cases k with
 | inl k=>cases (show x=kV k from r);exact jZ4 (P:=P) (w:=w) q
 | inr ks=>
  obtain⟨p,vs,rfl,e,t⟩:=(show ∃p vs,x= .ref p/\H p=some (.tup vs)/\Paired (Rk1 H) ks vs from r)
  cases (show u=Value.ref p from q)
  exact jZu (T:=vk1 P w) ok (r1_of ok) e t
theorem kJv {ks:TKey} (ok:HOk P w H h) (e:TKeyAt H ks a):(jQx P w).is h ks a:=by
 obtain⟨vs,h1,t⟩:=e
 exact jZu (T:=vk2 P w) ok (r2_of ok) h1 t
theorem kXe {kvs:List (TKey×V)} (ok:HOk P w H h) (e:Rd H a (.dT kvs)):kvs.length<=sizeLine/\(a == sysModules)=false/\
  ∃xs,KT H kvs xs/\h.DictOfH (jQx P w) a xs:=by
 obtain⟨z,y,xs,r,o,es,ep,h1,h2,h3,h4,h5⟩:=(show ObjOk P w H h a (.dT kvs) from rd_of ok e)
 refine⟨z,y,xs,r,o,es,ep,h1,h2,h3,h4,fun x hx=> ?_,h5⟩
 have all:∀ {l:List (TKey×V)} {m:List (TKey×Addr×Value)},KT H l m->∀x∈m,(jQx P w).is h x.1 x.2.1:=by
  intro l m q
  induction q with
  | nil=>intro x hx;exact nomatch hx
  | @cons p q ps qs hq t ih=>
   intro x hx
   rcases (List.mem_cons.mp hx) with e | hx
   ·subst e
    exact kJv ok (by rw[<-hq.1];exact hq.2.1)
   ·exact ih x hx
 exact all r x hx
theorem dt_of {kvs:List (TKey×V)} (ok:HOk P w H h) (e:H a=some (.dT kvs)):kvs.length<=sizeLine/\(a == sysModules)=false/\
  ∃xs,KT H kvs xs/\h.DictOfH (jQx P w) a xs:=kXe ok (.inl e)
end
def DGet (H:Hp) (a:Addr) (y:V) (r:Option V):Prop:=
 (∃kvs k,Rd H a (.dK kvs)/\y=kV k/\r=valV kvs k)\/∃kvs k b,Rd H a (.dT kvs)/\y= .ref b/\TKeyAt H k b/\r=valV kvs k
noncomputable def DPut (H:Hp) (a:Addr) (y v:V) (H':Hp):Prop:=
 (∃kvs k,H a=some (.dK kvs)/\y=kV k/\kvs.length<sizeLine/\H'=upd H a (.dK (putK kvs k v)))\/
 ∃kvs k b,H a=some (.dT kvs)/\y= .ref b/\TKeyAt H k b/\kvs.length<sizeLine/\H'=upd H a (.dT (putK kvs k v))
theorem DGet.k {H:Hp} {a:Addr} {kvs:List (Key×V)} {k:Key} (e:H a=some (.dK kvs)):DGet H a (kV k) (valV kvs k):= .inl ⟨kvs,k,.inl e,rfl,rfl⟩
theorem DGet.t {H:Hp} {a b:Addr} {kvs:List (TKey×V)} {k:TKey} (e:H a=some (.dT kvs)) (eb:TKeyAt H k b):DGet H a (.ref b) (valV kvs k):= .inr ⟨kvs,k,b,.inl e,rfl,eb,rfl⟩
theorem DPut.k {H:Hp} {a:Addr} {kvs:List (Key×V)} {k:Key} {v:V} (e:H a=some (.dK kvs)) (hl:kvs.length<sizeLine):DPut H a (kV k) v (upd H a (.dK (putK kvs k v))):= .inl ⟨kvs,k,e,rfl,hl,rfl⟩
theorem DPut.t {H:Hp} {a b:Addr} {kvs:List (TKey×V)} {k:TKey} {v:V} (e:H a=some (.dT kvs)) (eb:TKeyAt H k b) (hl:kvs.length<sizeLine):
  DPut H a (.ref b) v (upd H a (.dT (putK kvs k v))):= .inr ⟨kvs,k,b,e,rfl,eb,hl,rfl⟩
section
variable {X:Cx} {pins:List (Addr×Obj)} {σ:St} {H:Hp} {s:Shared} {a:Addr} {y v:V} {u r:Value} {o:Option V} {A:Around} {E:Value->Shared->Prop}
theorem Inv.big (I:Inv X pins σ H s):sysModules<s.heap.objs.size:=by
 have h:mainGlobals<s.heap.objs.size:=(I.mod.glob.keeps I.bk).lt
 exact Nat.lt_trans (by decide) h
theorem kUh {Q:Value->Shared->Prop} (hu:A.units+20<cLine) (I:Inv X pins σ H s) (g:DGet H a y (some v)) (ry:RelV y u) (h:∀w' s',Inv X pins σ H s'->RelV v w'->Q w' s'):
  wpAny (model X.prog X.w) A (getItem (.ref a) u) Q E s:=by
 rcases g with ⟨kvs,k,e,ey,l⟩ | ⟨kvs,k,b,e,ey,eb,l⟩
 ·subst ey
  obtain⟨z,hd,vs,rel,dd⟩:=kXg I.hok e
  obtain⟨w',hw,rw'⟩:=RelO.some_of (v:=v) (o:=valueAt vs k) (by rw[l];exact rel.val k)
  exact wpAny_getItem_of (jZ4 ry) dd.mapOf hw (h w' _ (I.tok _) rw')
 ·subst ey
  cases (show u=Value.ref b from ry)
  obtain⟨z,hd,xs,rel,dd⟩:=kXe I.hok e
  obtain⟨w',hw,rw'⟩:=RelO.some_of (v:=v) (o:=(atKey xs k).map (·.2)) (by rw[l];exact rel.val k)
  obtain⟨p,hp,hp2⟩:=Option.map_eq_some_iff.mp hw
  refine wpAny_getItem_heap (jKc hu) (kJv I.hok eb) dd hp ?_
  rw[hp2]
  exact h w' _ (I.tok _) rw'
theorem kZl {Q:Value->Shared->Prop} (hu:A.units+20<cLine) (I:Inv X pins σ H s) (g:DGet H a y o) (ry:RelV y u) (h:∀s',Inv X pins σ H s'->Q (.bool (!o.isSome)) s'):
  wpAny (model X.prog X.w) A (compareOp .NotIn u (.ref a)) Q E s:=by
 rcases g with ⟨kvs,k,e,ey,l⟩ | ⟨kvs,k,b,e,ey,eb,l⟩
 ·subst ey
  obtain⟨z,hd,vs,rel,dd⟩:=kXg I.hok e
  refine wpAny_notIn_of (jZ4 ry) hd dd.mapOf ?_
  rw[<-(rel.val k).isSome_eq,<-l]
  exact h _ (I.tok _)
 ·subst ey
  cases (show u=Value.ref b from ry)
  obtain⟨z,hd,xs,rel,dd⟩:=kXe I.hok e
  refine wpAny_notIn_heap (jKc hu) (kJv I.hok eb) hd dd ?_
  have q:=(rel.val k).isSome_eq
  rw[Option.isSome_map] at q
  rw[<-q,<-l]
  exact h _ (I.tok _)
theorem kJb {h':Heap} {t':Nat} {ob:HO} (I:Inv X pins σ H s) (mu:Mut (H a)) (hs:Heap.SameBut a s.heap h') (he:∃q,h'.get? a=some q) (new:ObjOk X.prog X.w (upd H a ob) h' a ob):
  Inv X pins σ (upd H a ob) {s with heap:=h',toks:=t'}:=
 I.write (x:=a) (e:=a) mu (.inl rfl) (fun b q hb z=>(hs.2 b hb).trans z) he new
theorem kX1 {P:Program} {w:World} {H':Hp} {h':Heap} {kvs:List (Key×V)} {vs:List (Key×Value)} (z:kvs.length<=sizeLine) (hd:(a == sysModules)=false) (rel:KV kvs vs) (dd:h'.DictOf (jJ2 P w) a vs):
  ObjOk P w H' h' a (.dK kvs):=⟨z,hd,vs,rel,dd⟩
theorem jZe {H':Hp} {Q:Unit->Shared->Prop} (hu:A.units+20<cLine) (I:Inv X pins σ H s) (g:DPut H a y v H') (ry:RelV y u) (rv:RelV v r) (h:∀s',Inv X pins σ H' s'->Q () s'):
  wpAny (model X.prog X.w) A (setItem (.ref a) u r) Q E s:=by
 rcases g with ⟨kvs,k,e,ey,l,eH⟩ | ⟨kvs,k,b,e,ey,eb,l,eH⟩
 ·subst ey eH
  obtain⟨z,hd,vs,rel,dd⟩:=dk_of I.hok e
  have hz:vs.length<=sizeLine:=by rw[<-rel.length];exact z
  have hl:(putK kvs k v).length<=sizeLine:=by have:=jV7 kvs k v;omega
  refine wpAny_setItem_pairs (hsz:=hz) (jZ4 ry) dd fun h' dd' hs=>h _ ?_
  have he:∃q,h'.get? a=some q:=let ⟨q,_,_,hq,_⟩:=dd';⟨q,hq⟩
  exact kJb I (by rw[e];exact True.intro) hs he (kX1 hl hd (rel.put k rv) dd')
 ·subst ey eH
  cases (show u=Value.ref b from ry)
  obtain⟨z,hd,xs,rel,dd⟩:=dt_of I.hok e
  have hz:xs.length<=sizeLine:=by rw[<-Paired.length rel];exact z
  have hl:(putK kvs k v).length<=sizeLine:=by have:=jV7 kvs k v;omega
  refine wpAny_setItem_heap (hsz:=hz) (jKc hu) (kJv I.hok eb) dd fun h' dd' hs=>h _ ?_
  obtain⟨q,es,ep,hq,h2,h3,h4,_,h5⟩:=dd'
  refine kJb I (by rw[e];exact True.intro) hs ⟨q,hq⟩ ⟨hl,hd,_,(rel.put k eb rv).keeps fun c ys ec=> ?_,q,es,ep,hq,h2,h3,h4,h5⟩
  rw[jJr (ne_of ec e (fun z=>nomatch z))]
  exact ec
end
section
variable {X:Cx} {pins:List (Addr×Obj)} {σ:St} {H:Hp} {s:Shared} {a:Addr} {kvs:List (Key×V)} {k:Key} {u:Value} {A:Around} {E:Value->Shared->Prop}
end
theorem kJa {X:Cx} {pins:List (Addr×Obj)} {σ:St} {H:Hp} {s:Shared} {a:Addr} {y:V} {o:Option V} (I:Inv X pins σ H s) (g:DGet H a y o):s.TypeIs (.ref a) "dict":=by
 rcases g with ⟨kvs,k,e,_,_⟩ | ⟨kvs,k,b,e,_,_,_⟩
 ·obtain⟨_,_,vs,_,dd⟩:=kXg I.hok e
  exact dd.typeIs
 ·obtain⟨_,_,xs,_,dd⟩:=kXe I.hok e
  exact dd.typeIs
section
variable {X:Cx} {o i e value:Expr} {pos pos' tpos:Pos} {td ty tv:TE}
end
theorem kJ2 {P:Program} {w:World} {H:Hp} (h:Heap) (hb:sysModules<h.objs.size):ObjOk P w H (h.push {cls:= .type "dict",data:= .dict #[]}) h.objs.size (.dK []):=
 ⟨Nat.zero_le _,beq_eq_false_iff_ne.mpr (Ne.symm (Nat.ne_of_lt hb)),[],.nil,Heap.DictOf.new h⟩
theorem kXf {P:Program} {w:World} {H:Hp} (h:Heap) (hb:sysModules<h.objs.size):ObjOk P w H (h.push {cls:= .type "dict",data:= .dict #[]}) h.objs.size (.dT []):=
 ⟨Nat.zero_le _,beq_eq_false_iff_ne.mpr (Ne.symm (Nat.ne_of_lt hb)),[],.nil,_,#[],0,Heap.get?_push_size _ rfl,⟨rfl,rfl,rfl⟩,rfl,rfl,List.nodup_nil⟩
def tDNewK:TE:=fun _ H Q=>∀p,H p=none->Q (.ref p) (upd H p (.dK []))
def tDNewT:TE:=fun _ H Q=>∀p,H p=none->Q (.ref p) (upd H p (.dT []))
section
variable {X:Cx} {pos:Pos}
theorem kVp:PE X (.Dict [] [] pos) tDNewK:=fun pins s σ H Q I h=>
 wpAny_Dict_empty ⟨.ref s.heap.objs.size,_,I.laid (a:=s.heap.objs.size) (o:= .dK []) (t':=s.toks) (fun _ _ q=>Heap.get?_push_of_some _ q) (Nat.le_refl _) (kJ2 s.heap I.big),rfl,h _ (I.hok.fresh (Nat.le_refl _))⟩
theorem kVo:PE X (.Dict [] [] pos) tDNewT:=fun pins s σ H Q I h=>
 wpAny_Dict_empty ⟨.ref s.heap.objs.size,_,I.laid (a:=s.heap.objs.size) (o:= .dT []) (t':=s.toks) (fun _ _ q=>Heap.get?_push_of_some _ q) (Nat.le_refl _) (kXf s.heap I.big),rfl,h _ (I.hok.fresh (Nat.le_refl _))⟩
end
abbrev VV:List (V×V)->List (Value×Value)->Prop:=Paired fun p q=>RelV p.1 q.1/\RelV p.2 q.2
def mergeK (kvs more:List (Key×V)):List (Key×V):=more.foldl (fun acc kv=>putK acc kv.1 kv.2) kvs
theorem KV.merge:∀ {more:List (Key×V)} {rs:List (Key×Value)} {kvs:List (Key×V)} {vs:List (Key×Value)},KV more rs->KV kvs vs->KV (mergeK kvs more) (merged vs rs):=by
 intro more rs kvs vs r
 unfold KV at r
 induction r generalizing kvs vs with
 | nil=>intro q;exact q
 | @cons p q ps qs h t ih=>
  intro r0
  have e:KV (putK kvs p.1 p.2) (stored vs q.1 q.2):=by
   have:=r0.put p.1 h.2
   rw[<-h.1];exact this
  exact ih e
theorem jXy {P:Program} {w:World}:∀ {kvs:List (Key×V)} {ws:List (Value×Value)},VV (kvs.map fun kv=>(kV kv.1,kv.2)) ws->∃rs,Carries (jJ2 P w) ws rs/\KV kvs rs
 | [],_,r=>by rw[List.map_nil] at r;cases r;exact⟨[],True.intro,.nil⟩
 | p::kvs,_,r=>by
  rw[List.map_cons] at r
  cases r with
  | @cons a b as bs h t=>
   obtain⟨rs,c,q⟩:=jXy (P:=P) (w:=w) t
   obtain⟨b1,b2⟩:=b
   exact⟨(p.1,b2)::rs,⟨jZ4 h.1,rfl,c⟩,.cons ⟨rfl,h.2⟩ q⟩
section
variable {X:Cx} {pins:List (Addr×Obj)} {σ:St} {H:Hp} {s:Shared} {a:Addr} {y d:V} {u r:Value} {o:Option V} {A:Around} {E:Value->Shared->Prop}
end
section
variable {X:Cx} {o e f:Expr} {apos cpos:Pos} {td ty tx:TE}
end
section
variable {X:Cx} {pins:List (Addr×Obj)} {σ:St} {H:Hp} {s:Shared} {a:Addr} {kvs:List (Key×V)} {A:Around} {E:Value->Shared->Prop}
end
section
variable {X:Cx} {pins:List (Addr×Obj)} {σ:St} {H:Hp} {s:Shared} {a:Addr} {y:V} {u:Value} {A:Around} {E:Value->Shared->Prop}
end
end L2
namespace Att
open PySem PySem.W PySem.Calls PyProof.Rows
theorem jV9 {P:Params} {h:Heap}:∀(ns:List Int) (vs:List Value),WellAll P h vs (ns.map WData.int)->IntsAre vs ns:=by
 intro ns
 induction ns with
 | nil=>
  intro vs w
  rw[List.map_nil] at w
  cases w
  exact .nil
 | cons n ns ih=>
  intro vs w
  rw[List.map_cons] at w
  cases w with
  | cons a b=>
   cases a
   exact .cons _ _ (ih _ b)
theorem kK5 {l:OpenLaw} {n:Nat} (hn:l.most=some n) {P:Params} {h:Heap} {args:List WData} {vals:List Value}
  (hpre:l.row.toRowW.claim.pre args=true) (hwl:WellAll P h vals args):
  ∃a vs ns,vals=[Value.ref a]/\args=[WData.list (ns.map WData.int)]/\h.get? a=some {cls:= .type "list",data:= .seq vs.toArray}/\IntsAre vs ns/\ns.length<=n:=by
 have hsh:WShape.hasAll [] args [.list .int]=true:=(pre_splitW hpre).1
 have hc:l.pre.holds [] {args:=args}=true:=(pre_splitW hpre).2
 obtain⟨d,r,rfl,h1,h2⟩:=hasAllW_cons hsh
 obtain rfl:=hasAllW_nil h2
 obtain⟨xs,rfl,h3⟩:=hasW_list h1
 obtain⟨ns,rfl⟩:=items_int h3
 have hlen:ns.length<=n:=by
  unfold OpenLaw.pre at hc
  have h4:(WTm.not (.lt (.lit (.int (n:Int))) (.len (.arg 0)))).holds [] {args:=[.list (ns.map .int)]}=true:=by
   have h4:=(holds_andW hc).1
   rw[hn] at h4
   exact h4
  have h5:=condW_of h4 (w_not (w_lt w_lit (w_len_list (w_arg rfl))))
  rw[List.length_map] at h5
  refine Nat.le_of_not_lt fun q=> ?_
  have q':(n:Int)<((ns.length:Nat):Int):=by omega
  first
   | (rw[decide_eq_true q'] at h5;exact absurd h5 (by decide))
   | (simp at h5;omega)
 cases hwl with
 | cons w1 w2=>
  cases w2
  cases w1 with
  | list ho hall=>exact⟨_,_,ns,rfl,rfl,ho,jV9 ns _ hall,hlen⟩
theorem kQj (l:OpenLaw) (args:List WData):l.row.toRowW.claim.post args (.bool true) args=true:=
 postW_of (r:=l.row.toRowW) (X:=(true == true))
  (show WShape.has [] (.bool true) .bool=true by first | rfl | decide | simp[WShape.has,WShape.arms,WShape.armsAll])
  (show (WTm.eq .res (.lit (.bool true))).value [] {args:=args,res:=some (.bool true),after:=args}=some (.bool (true == true)) from w_eq_bool (w_res rfl) w_lit) rfl
theorem attach_call {l:OpenLaw} {n:Nat} {q:Program} {loose:List Str} {XP:(Str->Option Value)->Heap->Prop} {YP:World->Heap->Prop} {d:DefRec}
  (hn:l.most=some n) (hdf:d.params.defaults=[])
  (call:∀(w:World) (s₀ s₁:Shared) (mg mb:Str->Option Value) (fa:Addr) (o:Obj) (pm cd doc:Value) (a:Addr) (vs:List Value) (ns:List Int),
   Ground q loose [] XP w s₀ mg mb s₁.heap->YP w s₁.heap->
   s₁.heap.get? fa=some o->o.data= .func (docDef d.name d.params d.body d.scope pm cd doc)->s₁.heap.CodeRec cd d.name->mg d.name=some (.ref fa)->
   s₁.heap.get? a=some {cls:= .type "list",data:= .seq vs.toArray}->IntsAre vs ns->ns.length<=n->s₁.gens= #[]->
   codeAny (model l.prog w) callerA (.call (.ref fa) ⟨[.ref a],[]⟩) (fun r s'=>r= .ok (.ret (.bool true))/\OldK s₁.heap s'.heap/\s'.os=s₁.os/\AllBare s'.gens) s₁):
  WalkO q loose XP YP l.row.toRowW d [] (fun f vs=>PySem.call f vs):=by
 intro w s₀ s₁ mg mb G Y fa o pm cd doc dV kV ho hd hcd hD hmg hg args vals as hpre hlay hrd hwl hlo
 obtain rfl:dV= .none:=Dflts.none hD hdf
 obtain rfl:kV= .none:=Dflts.noKw hD
 obtain⟨a,vs,ns,rfl,rfl,hobj,hints,hlen⟩:=kK5 hn hpre hwl
 refine enter_call (codeAny_mono (call w s₀ s₁ mg mb fa o pm cd doc a vs ns G Y ho (fd_plain hd) hcd hmg hobj hints hlen hg) fun r s' hq=> ?_)
 obtain⟨rfl,h2,h3,h4⟩:=hq
 exact⟨.inl ⟨.bool true,.bool true,[],rfl,fun _=>rfl,.bool true,kQj l _,fun _=>⟨List.Pairwise.nil,fun _ hm=>(nomatch hm)⟩⟩,h2,h3,h4⟩
section
variable {prog:Program} {w:World} {A:Around} {E:Value->Shared->Prop} {s:Shared} {K:Frag}
end
end Att
namespace L2
open PySem PySem.Spec PyProof.Rows
theorem jQn:∀ {vs:List Value} {ns:List Int},IntsAre vs ns->Vals (ns.map V.int) vs
 | _,_,.nil=> .nil
 | _,_,.cons n t h=> .cons ⟨t,rfl⟩ (jQn h)
def Only (H:Hp):Prop:=∀b,H b=none\/∃o xs,H b=some (.frz o (.lst xs))
theorem kV0 {P:Program} {w:World} {K:PySem.W.Frag} {mg mb:Str->Option Value} {CX:CXT} {k:Nat} {fa a:Addr} {fd:FuncData} {x:Str} {sp:Sp} {s₁:Shared} {vs:List Value} {ns:List Int}
  (KX:K.In s₁.heap) (hns:s₁.heap.Ns mainGlobals mg) (hb:s₁.heap.Ns builtinsNs mb) (hbb:∀x:Str,x≠"__name__"->mb x=bootBuiltins x) (hlim:s₁.heap.NoLimit) (hg:s₁.gens= #[])
  (ha:s₁.heap.get? a=some {cls:= .type "list",data:= .seq vs.toArray}) (hi:IntsAre vs ns) (hl:ns.length<=sizeLine) (hr:Room k callerA)
  (F:∀base:Heap,K.In base->base.Ns mainGlobals mg->FnOk P w K mg base CX k fa fd [x] sp) (hbind:∀(s:Shared) (u:Value),BindsTo s fd ⟨[u],[]⟩ [(x,u)])
  (hsp:∀H:Hp,Only H->SqL K H a (ns.map V.int)->sp [.ref a] H (fun v _=>v= .bl true) fun _ _ _=>False)
  (hCX:∀H e s',CX [] H s₁ (fun _ _ _=>False) e s'->False):
  codeAny (model P w) callerA (.call (.ref fa) ⟨[.ref a],[]⟩) (fun r s'=>r= .ok (.ret (.bool true))/\OldK s₁.heap s'.heap/\s'.os=s₁.os/\AllBare s'.gens) s₁:=by
 have rv:=jQn hi
 have lenV:=hi.length
 have core:∀H:Hp,Only H->SqL K H a (ns.map V.int)->HOk P w H s₁.heap->(∀b,H b≠none->b=a)->(H a≠none->K.lookup a=none)->
   codeAny (model P w) callerA (.call (.ref fa) ⟨[.ref a],[]⟩) (fun r s'=>r= .ok (.ret (.bool true))/\OldK s₁.heap s'.heap/\s'.os=s₁.os/\AllBare s'.gens) s₁:=by
  intro H hO hS hok hA hK
  have base_of:∀ {b:Addr} {o:Obj},s₁.heap.get? b=some o->H b=none->(hidT s₁.heap H).get? b=some o:=fun e n=>kV9 e n
  have noA:∀ {b:Addr} {o:Obj} {es:Array DictEntry} {ep:Nat},s₁.heap.get? b=some o->o.data= .dict es ep->H b=none:=fun {b o es ep} e d=>by
   cases q:H b with
   | none=>rfl
   | some u=>
    have e':b=a:=hA b (by rw[q];simp)
    subst e'
    rw[ha] at e;cases e
    have d':Data.seq vs.toArray _=Data.dict es ep:=d
    cases d'
  have nsK:∀ {b:Addr} {m:Str->Option Value},s₁.heap.Ns b m->(hidT s₁.heap H).Ns b m:=fun {b m} ⟨o,es,ep,e,d,r⟩=>⟨o,es,ep,base_of e (noA e d),d,r⟩
  have hKb:K.In (hidT s₁.heap H):=fun b o e=>base_of (KX b o e) (by
   cases q:H b with
   | none=>rfl
   | some u=>
    have e':b=a:=hA b (by rw[q];simp)
    subst e'
    rw[hK (by rw[q];simp)] at e;cases e)
  have hM:Mod K mg (hidT s₁.heap H):=⟨hKb,nsK hns,⟨mb,nsK hb,hbb⟩,let ⟨mc,h1,h2⟩:=hlim;⟨mc,nsK h1,h2⟩⟩
  have e0:Env0 P w K mg (hidT s₁.heap H) callerA [] s₁ H:=⟨rfl,hM,fun b o e=>kYr e,Nat.le_of_eq (kQ3 _ _),trivial,fun b hb=>absurd (show b∈([]:List Addr) from hb) (by simp),hok,.of_eq hg⟩
  refine codeAny_mono ((F _ hKb (nsK hns)).run callerA [] s₁ H ⟨[.ref a],[]⟩ [.ref a] [.ref a] _ _ hr e0 (hbind s₁ (.ref a)) (.cons rfl .nil) (hsp H hO hS)) fun r s' h=> ?_
  cases r with
  | error e=>exact (hCX H e s' h).elim
  | ok fl=>
   cases fl with
   | next=>exact False.elim h
   | brk=>exact False.elim h
   | cont=>exact False.elim h
   | ret u=>
    obtain⟨v,H',os,bare,un,hok',r',q⟩:=h
    have q':v= .bl true:=q
    subst q'
    obtain rfl:u=Value.bool true:=r'
    refine⟨rfl,OldK.of_keep fun b o e=> ?_,os,bare⟩
    cases q:H b with
    | none=>exact un.keep b o e q (by intro z;exact absurd (show b∈([]:List Addr) from z) (by simp)) (by simp)
    | some u=>
     rcases hO b with z | ⟨ob,xs,z⟩
     ·rw[q] at z;cases z
     ·have z2:=un.frzs b ob _ z
      obtain⟨e1,_⟩:=hok b _ z
      obtain⟨e2,_⟩:=hok' b _ z2
      rw[e] at e1;cases e1
      exact e2
 cases hk:K.lookup a with
 | some o=>
  have e:=KX a o hk
  rw[ha] at e
  cases e
  refine core (fun _=>none) (fun _=> .inl rfl) (.inr ⟨_,vs.toArray,_,hk,rfl,rfl,rfl,by rw[List.size_toArray,lenV];exact hl,by simpa using rv⟩) (fun b u z=>by have z':(none:Option HO)=some u:=z;cases z') (fun b z=>absurd rfl z) fun z=>absurd rfl z
 | none=>
  refine core (fun b=>if b=a then some (.frz {cls:= .type "list",data:= .seq vs.toArray} (.lst (ns.map V.int))) else none) (fun b=> ?_) (.inl (.inr ⟨{cls:= .type "list",data:= .seq vs.toArray},if_pos rfl⟩)) (fun b u z=> ?_) (fun b z=> ?_) fun _=>hk
  ·by_cases hb:b=a
   ·exact .inr ⟨_,_,if_pos hb⟩
   ·exact .inl (if_neg hb)
  ·by_cases hb:b=a
   ·have z':=(if_pos hb).symm.trans z
    cases z'
    subst hb
    exact⟨ha,by rw[List.length_map];exact hl,vs,_,rv,ha⟩
   ·have z':=(if_neg hb).symm.trans z
    cases z'
  ·by_cases hb:b=a
   ·exact hb
   ·exact absurd (if_neg hb) z
theorem walk_of {l:PySem.W.OpenLaw} {n k:Nat} {q:Program} {loose:List Str} {XP:(Str->Option Value)->Heap->Prop} {YP:World->Heap->Prop} {d:DefRec} {K:Params->PySem.W.Frag} {CX:World->CXT} {sp:World->Sp} {x:Str}
  (hn:l.most=some n) (hn2:n<=sizeLine) (hdf:d.params.defaults=[]) (hr:Room k callerA)
  (hY:∀(w:World) (h:Heap),YP w h->(K w.params).In h)
  (F:∀(w:World) (mg:Str->Option Value) (fa:Addr) (h:Heap),(K w.params).In h->h.Ns mainGlobals mg->mg d.name=some (.ref fa)->
   ∃fd:FuncData,(∀(s:Shared) (u:Value),BindsTo s fd ⟨[u],[]⟩ [(x,u)])/\
    ∀base:Heap,(K w.params).In base->base.Ns mainGlobals mg->FnOk l.prog w (K w.params) mg base (CX w) k fa fd [x] (sp w))
  (hsp:∀(w:World) (H:Hp) (a:Addr) (ns:List Int),ns.length<=n->Only H->SqL (K w.params) H a (ns.map V.int)->sp w [.ref a] H (fun v _=>v= .bl true) fun _ _ _=>False)
  (hCX:∀(w:World) (H:Hp) (s:Shared) (e:Value) (s':Shared),CX w [] H s (fun _ _ _=>False) e s'->False):
  PySem.W.WalkO q loose XP YP l.row.toRowW d [] (fun f vs=>PySem.call f vs):=by
 refine Att.attach_call hn hdf fun w s₀ s₁ mg mb fa o pm cd doc a vs ns G Y ho hd hcd hmg hobj hints hlen hg=> ?_
 have KX:=hY w _ Y
 obtain⟨fd,hb,hF⟩:=F w mg fa _ KX G.T.g hmg
 exact kV0 KX G.T.g G.T.b G.T.builtins G.T.nolimit hg hobj hints (Nat.le_trans hlen hn2) hr hF hb (fun H hO hS=>hsp w H a ns hlen hO hS) fun H e s'=>hCX w H s₁ e s'
noncomputable def jQv (s:Stmt):Arguments:=match s with
 | .FunctionDef _ a _ _ _ _ _ _ _ _=>a
 | _=>{posonlyargs:=[],args:=[],vararg:=none,kwonlyargs:=[],kw_defaults:=[],kwarg:=none,defaults:=[]}
def jKg (s:Stmt):List Stmt:=match s with
 | .FunctionDef _ _ b _ _ _ _ _ _ _=>b
 | _=>[]
def jJk (s:Stmt):Scope:=match s with
 | .FunctionDef _ _ _ _ _ _ sc _ _ _=>sc
 | _=>{kind:= .function,names:=[],isGenerator:=false,isCoroutine:=false}
abbrev CX0:CXT:=fun _ _ _ _ _ _=>False
abbrev E0:XK:=fun _ _ _=>False
theorem pass0 {X:Cx}:kX4 CX0 X E0:=fun _ _ _ _ _ _ _ h=>h.elim
structure Fun (K:PySem.W.Frag) (x qual:Str) (st:Stmt) (f:Addr) (fd:FuncData):Prop where
 ex:∃(oc:Value) (od:Option Addr) (kV doc pm:Value) (an:Option Addr) (cdv ct:Value) (osl:Array (Option Value)),
  fd=PySem.W.fnOf x qual (jQv st) (jKg st) (jJk st) .none kV doc pm an cdv ct/\K.lookup f=some ⟨oc,od,.func fd,osl⟩/\PySem.W.codeIn K cdv qual=true
 kp:PySem.W.keepIn K (.ref f)=true
section
variable {P:Program} {w:World} {K:PySem.W.Frag} {mg:Str->Option Value} {base:Heap}
theorem Fun.ok {x qual:Str} {st:Stmt} {f:Addr} {fd:FuncData} {N ps:List Str} {k:Nat} {sp:Sp} (F:Fun K x qual st f fd) (S:FnScope N ps (jJk st)) (len:∀vs H Q E,sp vs H Q E->vs.length=ps.length)
  (hbody:∀(cdv:Value) (A:Around) (outer:List Env) (s:Shared) (H:Hp) (vs:List V) (Q:VK) (E:XK),Room k (A.deeper (envOfC qual (jJk st) s.heap.objs.size f cdv))->sp vs H Q E->
   ∃t,PSs (cxOf CX0 P w K mg base N qual (jJk st) f cdv A outer s H E).nox (jKg st) t/\t {nx:=fun _ H'=>Q .non H',rt:=Q} (start N vs) H):FnOk P w K mg base CX0 (k+1) f fd ps sp:=by
 obtain⟨oc,od,kV,doc,pm,an,cdv,ct,osl,rfl,lk,hcd⟩:=F.ex
 refine fn_of lk hcd S len fun A outer s H vs Q E hr hsp=> ?_
 obtain⟨t,h,q⟩:=hbody cdv A outer s H vs Q E hr hsp
 exact⟨t,h.nox,q⟩
theorem Fun.binds {x qual:Str} {st:Stmt} {f:Addr} {fd:FuncData} {ps:List Str} (F:Fun K x qual st f fd)
  (h:∀(kV doc pm:Value) (an:Option Addr) (cdv ct:Value) (us:List Value),us.length=ps.length->bindArgs (PySem.W.fnOf x qual (jQv st) (jKg st) (jJk st) .none kV doc pm an cdv ct) ⟨us,[]⟩=pure (ps.zip us)):Binds K fd ps []:=by
 obtain⟨oc,od,kV,doc,pm,an,cdv,ct,osl,rfl,lk,hcd⟩:=F.ex
 exact .all (h kV doc pm an cdv ct)
theorem fun_mk {x qual:Str} {st:Stmt} {f:Addr} {oc:Value} {od an:Option Addr} {osl:Array (Option Value)} {kV doc pm cdv ct:Value} (l:K.lookup f=some ⟨oc,od,.func (PySem.W.fnOf x qual (jQv st) (jKg st) (jJk st) .none kV doc pm an cdv ct),osl⟩)
  (c:PySem.W.codeIn K cdv qual=true) (k:PySem.W.keepIn K (.ref f)=true):Fun K x qual st f (PySem.W.fnOf x qual (jQv st) (jKg st) (jJk st) .none kV doc pm an cdv ct):=⟨⟨oc,od,kV,doc,pm,an,cdv,ct,osl,rfl,l,c⟩,k⟩
end
theorem kZb {A:Around} {k:Nat} (hr:Room k A):A.units+20<cLine:=Nat.lt_of_le_of_lt (Nat.add_le_add_left (by decide:20<=64) _) hr.units
section
variable {X:Cx}
end
end L2
set_option Elab.async false
set_option linter.all false
set_option maxRecDepth 100000
set_option maxHeartbeats 5000000
namespace L3
open PySem PySem.Spec PyProof.Rows L2
inductive T where
 | non | bl (b:Bool) | int (i:Int) | str (x:Str) | tup (xs:List T) | scr (xs:List T) | ref (a:Addr) | ty (n:String)
structure Ext (H H':Hp):Prop where
 tup:∀b xs,H b=some (.tup xs)->H' b=some (.tup xs)
 frz:∀b ob u,H b=some (.frz ob u)->H' b=some (.frz ob u)
theorem Ext.refl (H:Hp):Ext H H:=⟨fun _ _ h=>h,fun _ _ _ h=>h⟩
theorem Ext.trans {H H1 H2:Hp} (a:Ext H H1) (b:Ext H1 H2):Ext H H2:=⟨fun c o h=>b.tup c o (a.tup c o h),fun c o u h=>b.frz c o u (a.frz c o u h)⟩
noncomputable def FrL (K:PySem.W.Frag) (H:Hp) (a:Addr) (xs:List V):Prop:=
 (∃ob,H a=some (.frz ob (.lst xs)))\/
  ∃(o:Obj) (its:Array Value) (n:Nat),K.lookup a=some o/\o.cls= .type "list"/\o.dict=none/\o.data= .seq its n/\its.size<=sizeLine/\Vals xs its.toList
theorem FrL.sq {K:PySem.W.Frag} {H:Hp} {a:Addr} {xs:List V} (h:FrL K H a xs):SqL K H a xs:=by
 rcases h with ⟨ob,h⟩ | h
 ·exact .inl (.inr ⟨ob,h⟩)
 ·exact .inr h
theorem FrL.mono {K:PySem.W.Frag} {H H':Hp} {a:Addr} {xs:List V} (e:Ext H H') (h:FrL K H a xs):FrL K H' a xs:=by
 rcases h with ⟨ob,h⟩ | h
 ·exact .inl ⟨ob,e.frz _ _ _ h⟩
 ·exact .inr h
mutual
noncomputable def Rep (K:PySem.W.Frag) (H:Hp):T->V->Prop
 | .non,v=>v= .non
 | .bl b,v=>v= .bl b
 | .int i,v=>v= .int i
 | .str x,v=>v= .str x
 | .ref a,v=>v= .ref a
 | .ty n,v=>v= .ty n
 | .tup xs,v=>∃a vs,v= .ref a/\H a=some (.tup vs)/\Reps K H xs vs
 | .scr xs,v=>∃a vs,v= .ref a/\FrL K H a vs/\Reps K H xs vs
noncomputable def Reps (K:PySem.W.Frag) (H:Hp):List T->List V->Prop
 | [],vs=>vs=[]
 | x::xs,vs=>∃v ws,vs=v::ws/\Rep K H x v/\Reps K H xs ws
end
mutual
theorem Rep.mono {K:PySem.W.Frag} {H H':Hp} (e:Ext H H'):∀(x:T) {v:V},Rep K H x v->Rep K H' x v
 | .non,_,h=>h
 | .bl _,_,h=>h
 | .int _,_,h=>h
 | .str _,_,h=>h
 | .ref _,_,h=>h
 | .ty _,_,h=>h
 | .tup xs,_,⟨a,vs,r1,r2,r3⟩=>⟨a,vs,r1,e.tup _ _ r2,Reps.mono e xs r3⟩
 | .scr xs,_,⟨a,vs,r1,r2,r3⟩=>⟨a,vs,r1,r2.mono e,Reps.mono e xs r3⟩
theorem Reps.mono {K:PySem.W.Frag} {H H':Hp} (e:Ext H H'):∀(xs:List T) {vs:List V},Reps K H xs vs->Reps K H' xs vs
 | [],_,h=>h
 | x::xs,_,⟨v,ws,r1,r2,r3⟩=>⟨v,ws,r1,Rep.mono e x r2,Reps.mono e xs r3⟩
end
section
variable {K:PySem.W.Frag} {H:Hp}
theorem Reps.length:∀ {xs:List T} {vs:List V},Reps K H xs vs->xs.length=vs.length
 | [],_,h=>by cases h;rfl
 | _::_,_,⟨_,_,r1,_,r3⟩=>by subst r1;simp[Reps.length r3]
theorem Reps.get:∀ {xs:List T} {vs:List V} {i:Nat} {x:T},Reps K H xs vs->xs[i]? =some x->∃v,vs[i]? =some v/\Rep K H x v
 | [],_,_,_,_,e=>by simp at e
 | y::ys,_,0,x,⟨v,ws,r1,r2,r3⟩,e=>by subst r1;simp at e;subst e;exact⟨v,rfl,r2⟩
 | y::ys,_,i+1,x,⟨v,ws,r1,r2,r3⟩,e=>by subst r1;simpa using Reps.get r3 (by simpa using e)
theorem Reps.get':∀ {xs:List T} {vs:List V} {i:Nat} {v:V},Reps K H xs vs->vs[i]? =some v->∃x,xs[i]? =some x/\Rep K H x v
 | [],_,_,_,h,e=>by cases h;simp at e
 | y::ys,_,0,x,⟨v,ws,r1,r2,r3⟩,e=>by subst r1;simp at e;subst e;exact⟨y,rfl,r2⟩
 | y::ys,_,i+1,x,⟨v,ws,r1,r2,r3⟩,e=>by subst r1;simpa using Reps.get' r3 (by simpa using e)
theorem Reps.append:∀ {xs ys:List T} {vs ws:List V},Reps K H xs vs->Reps K H ys ws->Reps K H (xs++ys) (vs++ws)
 | [],_,_,_,h,h2=>by cases h;exact h2
 | _::_,_,_,_,⟨v,ws,r1,r2,r3⟩,h2=>by subst r1;exact⟨v,_,rfl,r2,Reps.append r3 h2⟩
theorem Reps.one {x:T} {v:V} (r:Rep K H x v):Reps K H [x] [v]:=⟨v,[],rfl,r,rfl⟩
theorem Reps.set {x:T} {v:V} (r:Rep K H x v):∀ {xs:List T} {vs:List V} (i:Nat),Reps K H xs vs->Reps K H (xs.set i x) (vs.set i v)
 | [],_,_,e=>by cases e;rfl
 | _::_,_,0,⟨_,ws,r1,r2,r3⟩=>by subst r1;exact⟨v,ws,rfl,r,r3⟩
 | _::_,_,i+1,⟨u,ws,r1,r2,r3⟩=>by subst r1;exact⟨u,_,rfl,r2,Reps.set r i r3⟩
theorem Reps.take:∀ {xs:List T} {vs:List V} (n:Nat),Reps K H xs vs->Reps K H (xs.take n) (vs.take n)
 | _,_,0,_=>by simp[Reps]
 | [],_,_+1,h=>by cases h;simp[Reps]
 | _::_,_,n+1,⟨u,ws,r1,r2,r3⟩=>by subst r1;exact⟨u,_,rfl,r2,Reps.take n r3⟩
theorem Reps.drop:∀ {xs:List T} {vs:List V} (n:Nat),Reps K H xs vs->Reps K H (xs.drop n) (vs.drop n)
 | _,_,0,h=>h
 | [],_,_+1,h=>by cases h;simp[Reps]
 | _::_,_,n+1,⟨u,ws,r1,r2,r3⟩=>by subst r1;exact Reps.drop n r3
theorem Reps.rep {xs:List T} {vs:List V} (r:Reps K H xs vs):∀n:Nat,Reps K H (List.replicate n xs).flatten (List.replicate n vs).flatten
 | 0=>by simp[Reps]
 | n+1=>by simpa[List.replicate_succ] using r.append (Reps.rep r n)
theorem Reps.atI {xs:List T} {vs:List V} {i:Int} {x:T} (r:Reps K H xs vs) (h:atI xs i=some x):∃v,atI vs i=some v/\Rep K H x v:=by
 unfold L2.atI at h ⊢
 rw[<-r.length]
 cases e:ixN xs.length i with
 | none=>rw[e] at h;cases h
 | some j=>rw[e] at h;exact r.get h
end
inductive GO where
 | lst (xs:List T) | dct (kvs:List (TKey×T)) | dck (kvs:List (Key×T)) | fdc (kvs:List (TKey×T)) | ins (cn:Str) (fs:List (Str×T)) | exc (cn:Str)
abbrev Gp:=Addr->Option GO
def gup (G:Gp) (a:Addr) (o:GO):Gp:=fun b=>if b=a then some o else G b
theorem jJg {G:Gp} {a:Addr} {o:GO}:gup G a o a=some o:=by simp[gup]
theorem jJp {G:Gp} {a b:Addr} {o:GO} (h:b≠a):gup G a o b=G b:=by simp[gup,h]
theorem kQ4 {G:Gp} {a:Addr} {o o':GO}:gup (gup G a o) a o'=gup G a o':=by funext b;by_cases h:b=a<;>simp[gup,h]
def asL:Option GO->Option (List T)
 | some (.lst xs)=>some xs
 | _=>none
def seqT (G:Gp):T->Option (List T)
 | .tup xs=>some xs
 | .scr xs=>some xs
 | .ref a=>asL (G a)
 | _=>none
def PKV {κ:Type} (K:PySem.W.Frag) (H:Hp):List (κ×T)->List (κ×V)->Prop:=Paired fun p q=>p.1=q.1/\Rep K H p.2 q.2
noncomputable def GOk (K:PySem.W.Frag) (H:Hp) (a:Addr):GO->Prop
 | .lst xs=>∃vs,H a=some (.lst vs)/\Reps K H xs vs
 | .dct kvs=>∃ws,H a=some (.dT ws)/\PKV K H kvs ws
 | .dck kvs=>∃ws,H a=some (.dK ws)/\PKV K H kvs ws
 | .fdc kvs=>∃ob ws,H a=some (.frz ob (.dT ws))/\PKV K H kvs ws
 | .ins cn fs=>∃C dx ws,H a=some (.ins C dx ws)/\PySem.W.nsIn K mainGlobals cn=some (some (.ref C))/\PKV K H fs ws
 | .exc cn=>∃ob C u,H a=some (.frz ob u)/\ob.cls= .ref C/\PySem.W.nsIn K mainGlobals cn=some (some (.ref C))
def GRel (K:PySem.W.Frag) (H:Hp) (G:Gp):Prop:=∀a o,G a=some o->GOk K H a o
section
variable {K:PySem.W.Frag} {H H':Hp} {G:Gp} {a:Addr}
theorem PKV.mono {κ:Type} {kvs:List (κ×T)} {ws:List (κ×V)} (e:Ext H H') (h:PKV K H kvs ws):PKV K H' kvs ws:=Paired.mapP h fun _ _ z=>⟨z.1,Rep.mono e _ z.2⟩
theorem GOk.move {o:GO} (h:GOk K H a o) (e:Ext H H') (ha:H' a=H a):GOk K H' a o:=by
 cases o with
 | lst xs=>obtain⟨vs,h1,h2⟩:=h;exact⟨vs,ha.trans h1,Reps.mono e _ h2⟩
 | dct kvs=>obtain⟨vs,h1,h2⟩:=h;exact⟨vs,ha.trans h1,h2.mono e⟩
 | dck kvs=>obtain⟨vs,h1,h2⟩:=h;exact⟨vs,ha.trans h1,h2.mono e⟩
 | fdc kvs=>obtain⟨ob,vs,h1,h2⟩:=h;exact⟨ob,vs,ha.trans h1,h2.mono e⟩
 | ins cn fs=>obtain⟨C,dx,ws,h1,h2,h3⟩:=h;exact⟨C,dx,ws,ha.trans h1,h2,h3.mono e⟩
 | exc cn=>obtain⟨ob,C,u,h1,h2,h3⟩:=h;exact⟨ob,C,u,ha.trans h1,h2,h3⟩
theorem GOk.some {o:GO} (h:GOk K H a o):H a≠none:=by
 cases o with
 | lst xs=>obtain⟨vs,h1,h2⟩:=h;rw[h1];simp
 | dct kvs=>obtain⟨vs,h1,h2⟩:=h;rw[h1];simp
 | dck kvs=>obtain⟨vs,h1,h2⟩:=h;rw[h1];simp
 | fdc kvs=>obtain⟨ob,vs,h1,h2⟩:=h;rw[h1];simp
 | ins cn fs=>obtain⟨C,dx,ws,h1,h2,h3⟩:=h;rw[h1];simp
 | exc cn=>obtain⟨ob,C,u,h1,h2,h3⟩:=h;rw[h1];simp
theorem GRel.fresh (g:GRel K H G) (h:H a=none):G a=none:=by
 cases e:G a with
 | none=>rfl
 | some o=>exact absurd h (g a o e).some
def Soft (o:Option HO):Prop:=o=none\/(∃xs,o=some (.lst xs))\/(∃kvs,o=some (.dK kvs))\/(∃kvs,o=some (.dT kvs))\/∃C dx fs,o=some (.ins C dx fs)
theorem Ext.upd {o:HO} (h:Soft (H a)):Ext H (L2.upd H a o):=by
 refine⟨fun b xs e=> ?_,fun b ob u e=> ?_⟩
 ·rw[jJr];exact e
  rintro rfl;rw[e] at h;rcases h with h | ⟨_,h⟩ | ⟨_,h⟩ | ⟨_,h⟩ | ⟨_,_,_,h⟩<;>cases h
 ·rw[jJr];exact e
  rintro rfl;rw[e] at h;rcases h with h | ⟨_,h⟩ | ⟨_,h⟩ | ⟨_,h⟩ | ⟨_,_,_,h⟩<;>cases h
theorem GRel.upd {o:HO} {go:GO} (g:GRel K H G) (h:Soft (H a)) (n:GOk K (L2.upd H a o) a go):GRel K (L2.upd H a o) (gup G a go):=by
 intro b u e
 by_cases hb:b=a
 ·subst hb;rw[jJg] at e;cases e;exact n
 ·rw[jJp hb] at e;exact (g b u e).move (Ext.upd h) (jJr hb)
theorem Soft.none (h:H a=none):Soft (H a):= .inl h
theorem Soft.lst {xs:List V} (h:H a=some (.lst xs)):Soft (H a):= .inr (.inl ⟨xs,h⟩)
theorem Soft.dT {xs:List (TKey×V)} (h:H a=some (.dT xs)):Soft (H a):= .inr (.inr (.inr (.inl ⟨xs,h⟩)))
theorem Soft.dK {xs:List (Key×V)} (h:H a=some (.dK xs)):Soft (H a):= .inr (.inr (.inl ⟨xs,h⟩))
theorem GRel.tupNew {vs:List V} (g:GRel K H G) (h:H a=Option.none):GRel K (L2.upd H a (.tup vs)) G:=by
 intro b u e
 have hb:b≠a:=by rintro rfl;exact (g b u e).some h
 exact (g b u e).move (Ext.upd (.none h)) (jJr hb)
theorem Rep.tupNew {xs:List T} {vs:List V} (r:Reps K H xs vs) (h:H a=Option.none):Rep K (L2.upd H a (.tup vs)) (.tup xs) (.ref a):=
 ⟨a,vs,rfl,jJ1,Reps.mono (Ext.upd (.none h)) _ r⟩
theorem GRel.lstNew {xs:List T} {vs:List V} (g:GRel K H G) (r:Reps K H xs vs) (h:Soft (H a)):GRel K (L2.upd H a (.lst vs)) (gup G a (.lst xs)):=
 g.upd h ⟨vs,jJ1,Reps.mono (Ext.upd h) _ r⟩
theorem GRel.lst {xs:List T} (g:GRel K H G) (h:G a=some (.lst xs)):∃vs,H a=some (.lst vs)/\Reps K H xs vs:=g a _ h
end
abbrev St3:=List (Option T)
def SRel (K:PySem.W.Frag) (H:Hp) (σ:L2.St) (τ:St3):Prop:=σ.length=τ.length/\∀(i:Nat) (t:T),τ[i]? =some (some t)->∃v,σ[i]? =some (some v)/\Rep K H t v
theorem SRel.mono {K:PySem.W.Frag} {H H':Hp} {σ:L2.St} {τ:St3} (e:Ext H H') (h:SRel K H σ τ):SRel K H' σ τ:=
 ⟨h.1,fun i t q=>let ⟨v,h1,h2⟩:=h.2 i t q;⟨v,h1,Rep.mono e _ h2⟩⟩
theorem SRel.set {K:PySem.W.Frag} {H:Hp} {σ:L2.St} {τ:St3} {t:T} {v:V} (h:SRel K H σ τ) (i:Nat) (r:Rep K H t v):SRel K H (σ.set i (some v)) (τ.set i (some t)):=by
 refine⟨by simp[h.1],fun j u q=> ?_⟩
 by_cases hj:i=j
 ·subst hj
  have hl:i<τ.length:=by
   rcases Nat.lt_or_ge i τ.length with z | z
   ·exact z
   ·rw[List.getElem?_eq_none (by simpa using z)] at q;cases q
  rw[List.getElem?_set_self hl] at q
  cases q
  exact⟨v,by rw[List.getElem?_set_self (by rw[h.1];exact hl)],r⟩
 ·rw[List.getElem?_set_ne hj] at q ⊢
  exact h.2 j u q
def Inv3 (X:Cx) (pins:List (Addr×Obj)) (τ:St3) (G:Gp) (H:Hp) (s:Shared):Prop:=∃ σ,Inv X pins σ H s/\SRel X.K H σ τ/\GRel X.K H G
abbrev VK3:=T->Gp->Prop
abbrev TE3:=St3->Gp->VK3->Prop
abbrev TT3:=St3->Gp->(Bool->Gp->Prop)->Prop
abbrev TA3:=St3->Gp->(List T->Gp->Prop)->Prop
structure Ends3 where
 nx:St3->Gp->Prop
 rt:VK3
 bk:St3->Gp->Prop:=fun _ _=>False
 ct:St3->Gp->Prop:=fun _ _=>False
abbrev TS3:=Ends3->St3->Gp->Prop
def RU (K:PySem.W.Frag) (H:Hp) (t:T) (u:Value):Prop:=∃v,Rep K H t v/\RelV v u
def RUs (K:PySem.W.Frag) (H:Hp) (ts:List T) (us:List Value):Prop:=∃vs,Reps K H ts vs/\Vals vs us
theorem RU.mono {K:PySem.W.Frag} {H H':Hp} {t:T} {u:Value} (e:Ext H H') (h:RU K H t u):RU K H' t u:=let ⟨v,h1,h2⟩:=h;⟨v,Rep.mono e _ h1,h2⟩
def EP3 (X:Cx) (pins:List (Addr×Obj)) (τ:St3) (H:Hp) (Q:VK3) (u:Value) (s':Shared):Prop:=∃t G' H',Ext H H'/\Inv3 X pins τ G' H' s'/\RU X.K H' t u/\Q t G'
def TP3 (X:Cx) (pins:List (Addr×Obj)) (τ:St3) (H:Hp) (Q:Bool->Gp->Prop) (b:Bool) (s':Shared):Prop:=∃G' H',Ext H H'/\Inv3 X pins τ G' H' s'/\Q b G'
def AP3 (X:Cx) (pins:List (Addr×Obj)) (τ:St3) (H:Hp) (Q:List T->Gp->Prop) (us:List Value) (s':Shared):Prop:=∃ts G' H',Ext H H'/\Inv3 X pins τ G' H' s'/\RUs X.K H' ts us/\Q ts G'
noncomputable def SP3 (X:Cx) (pins:List (Addr×Obj)) (H:Hp) (D:Ends3) (f:Flow) (s':Shared):Prop:=
 match f with
 | .next=>∃ τ' G' H',Ext H H'/\Inv3 X pins τ' G' H' s'/\D.nx τ' G'
 | .brk=>∃ τ' G' H',Ext H H'/\Inv3 X pins τ' G' H' s'/\D.bk τ' G'
 | .cont=>∃ τ' G' H',Ext H H'/\Inv3 X pins τ' G' H' s'/\D.ct τ' G'
 | .ret u=>∃t τ' G' H',Ext H H'/\Inv3 X pins τ' G' H' s'/\RU X.K H' t u/\D.rt t G'
noncomputable def PE3 (X:Cx) (e:Expr) (t:TE3):Prop:=∀(pins:List (Addr×Obj)) (s:Shared) (τ:St3) (G:Gp) (H:Hp) (Q:VK3),Inv3 X pins τ G H s->t τ G Q->wpAny (model X.prog X.w) X.A (eval e X.env) (EP3 X pins τ H Q) X.xe s
noncomputable def PT3 (X:Cx) (e:Expr) (t:TT3):Prop:=∀(pins:List (Addr×Obj)) (s:Shared) (τ:St3) (G:Gp) (H:Hp) (Q:Bool->Gp->Prop),Inv3 X pins τ G H s->t τ G Q->wpAny (model X.prog X.w) X.A (isTrue e X.env (eval e X.env)) (TP3 X pins τ H Q) X.xe s
noncomputable def PW3 (X:Cx) (e:Expr) (t:TT3):Prop:=∀(whole:Sem Value) (pins:List (Addr×Obj)) (s:Shared) (τ:St3) (G:Gp) (H:Hp) (Q:Bool->Gp->Prop),Inv3 X pins τ G H s->t τ G Q->wpAny (model X.prog X.w) X.A (isTrue e X.env whole) (TP3 X pins τ H Q) X.xe s
theorem PW3.pt {X:Cx} {e:Expr} {t:TT3} (h:PW3 X e t):PT3 X e t:=h _
noncomputable def PA3 (X:Cx) (es:List Expr) (t:TA3):Prop:=∀(pos:Pos) (pins:List (Addr×Obj)) (s:Shared) (τ:St3) (G:Gp) (H:Hp) (Q:List T->Gp->Prop),Inv3 X pins τ G H s->t τ G Q->wpAny (model X.prog X.w) X.A (spliced (backTo pos (starEach es X.env))) (AP3 X pins τ H Q) X.xe s
noncomputable def PS3 (X:Cx) (st:Stmt) (t:TS3):Prop:=∀(pins:List (Addr×Obj)) (s:Shared) (τ:St3) (G:Gp) (H:Hp) (D:Ends3),Inv3 X pins τ G H s->t D τ G->wpAny (model X.prog X.w) X.A (exec st X.env) (SP3 X pins H D) X.xe s
noncomputable def PSs3 (X:Cx) (st:List Stmt) (t:TS3):Prop:=∀(pins:List (Addr×Obj)) (s:Shared) (τ:St3) (G:Gp) (H:Hp) (D:Ends3),Inv3 X pins τ G H s->t D τ G->wpAny (model X.prog X.w) X.A (execs st X.env) (SP3 X pins H D) X.xe s
section
variable {X:Cx} {pins:List (Addr×Obj)} {τ:St3} {G:Gp} {H H1:Hp} {s:Shared} {C:Prop}
theorem EP3.el {Q:VK3} {u:Value} (h:EP3 X pins τ H Q u s) (k:∀t G' H',Ext H H'->Inv3 X pins τ G' H' s->RU X.K H' t u->Q t G'->C):C:=let ⟨t,G',H',a,b,c,d⟩:=h;k t G' H' a b c d
theorem AP3.el {Q:List T->Gp->Prop} {u:List Value} (h:AP3 X pins τ H Q u s) (k:∀t G' H',Ext H H'->Inv3 X pins τ G' H' s->RUs X.K H' t u->Q t G'->C):C:=let ⟨t,G',H',a,b,c,d⟩:=h;k t G' H' a b c d
theorem TP3.el {Q:Bool->Gp->Prop} {u:Bool} (h:TP3 X pins τ H Q u s) (k:∀G' H',Ext H H'->Inv3 X pins τ G' H' s->Q u G'->C):C:=let ⟨G',H',a,b,c⟩:=h;k G' H' a b c
theorem Inv3.el (h:Inv3 X pins τ G H s) (k:∀ σ,Inv X pins σ H s->SRel X.K H σ τ->GRel X.K H G->C):C:=let ⟨σ,a,b,c⟩:=h;k σ a b c
theorem RU.el {K:PySem.W.Frag} {t:T} {u:Value} (h:RU K H t u) (k:∀v,Rep K H t v->RelV v u->C):C:=let ⟨v,a,b⟩:=h;k v a b
theorem RUs.el {K:PySem.W.Frag} {t:List T} {u:List Value} (h:RUs K H t u) (k:∀v,Reps K H t v->Vals v u->C):C:=let ⟨v,a,b⟩:=h;k v a b
end
section
variable {X:Cx} {pins:List (Addr×Obj)} {τ:St3} {G:Gp} {H H1:Hp} {s:Shared}
theorem EP3.ext {Q:VK3} {u:Value} (e:Ext H H1) (h:EP3 X pins τ H1 Q u s):EP3 X pins τ H Q u s:=let ⟨t,G',H',a,b⟩:=h;⟨t,G',H',e.trans a,b⟩
theorem TP3.ext {Q:Bool->Gp->Prop} {u:Bool} (e:Ext H H1) (h:TP3 X pins τ H1 Q u s):TP3 X pins τ H Q u s:=let ⟨G',H',a,b⟩:=h;⟨G',H',e.trans a,b⟩
theorem SP3.ext {D:Ends3} {f:Flow} (e:Ext H H1) (h:SP3 X pins H1 D f s):SP3 X pins H D f s:=by
 cases f with
 | next=>obtain⟨τ',G',H',a,b⟩:=h;exact⟨τ',G',H',e.trans a,b⟩
 | brk=>obtain⟨τ',G',H',a,b⟩:=h;exact⟨τ',G',H',e.trans a,b⟩
 | cont=>obtain⟨τ',G',H',a,b⟩:=h;exact⟨τ',G',H',e.trans a,b⟩
 | ret u=>obtain⟨t,τ',G',H',a,b⟩:=h;exact⟨t,τ',G',H',e.trans a,b⟩
theorem Inv3.tok (I:Inv3 X pins τ G H s) (t:Nat):Inv3 X pins τ G H {s with toks:=t}:=let ⟨σ,I,a,b⟩:=I;⟨σ,I.tok t,a,b⟩
theorem bin3 {a b:Expr} {ta tb:TE3} (ha:PE3 X a ta) (hb:PE3 X b tb) {R:T->T->Gp->Prop} (I:Inv3 X pins τ G H s) (h:ta τ G fun x G1=>tb τ G1 fun y G2=>R x y G2)
  {α:Type} {Q:α->Shared->Prop} {f:Value->Value->Sem α}
  (hf:∀v u s2 x y G2 H2,Ext H H2->Inv3 X pins τ G2 H2 s2->RU X.K H2 x v->RU X.K H2 y u->R x y G2->wpAny (model X.prog X.w) X.A (f v u) Q X.xe s2):
  wpAny (model X.prog X.w) X.A (eval a X.env) (fun v s₁=>wpAny (model X.prog X.w) X.A (eval b X.env) (fun u s₂=>wpAny (model X.prog X.w) X.A (f v u) Q X.xe s₂) X.xe s₁) X.xe s:=by
 refine thn (ha pins s τ G H _ I h) fun v s1 w_=>w_.el fun x G1 H1 e1 I1 r1 q1=> ?_
 refine thn (hb pins s1 τ G1 H1 _ I1 q1) fun u s2 w_=>w_.el fun y G2 H2 e2 I2 r2 q2=> ?_
 exact hf v u s2 x y G2 H2 (e1.trans e2) I2 (r1.mono e2) r2 q2
def up (K:PySem.W.Frag) (H:Hp) (Q:VK3):VK:=fun v H'=>∃t G',Ext H H'/\GRel K H' G'/\Rep K H' t v/\Q t G'
theorem jQt {σ:L2.St} {Q:VK3} {u:Value} (hs:SRel X.K H σ τ) (h:EP X pins σ (up X.K H Q) u s):EP3 X pins τ H Q u s:=
 let ⟨v,H',I',r',t,G',e,g',rt,q⟩:=h
 ⟨t,G',H',e,⟨σ,I',hs.mono e,g'⟩,⟨v,rt,r'⟩,q⟩
end
section
variable {X:Cx} {pos:Pos}
def tVar (i:Nat):TE3:=fun τ G Q=>∃t,τ[i]? =some (some t)/\Q t G
def tC (t:T):TE3:=fun _ G Q=>Q t G
theorem jJc (i:Nat) {x:Str} (hN:X.N[i]? =some x:=by rfl) (hv:Vis X.env.scope x:=by first | exact Or.inl rfl | exact Or.inr (Or.inl rfl) | exact Or.inr (Or.inr rfl))
  (hd:(x == ("__debug__":Str))=false:=by decide) (hcd:(x == ("__classdict__":Str))=false:=by decide):PE3 X (.Name x pos) (tVar i):=by
 rintro pins s τ G H Q ⟨σ,I,hs,hg⟩ ⟨t,e,q⟩
 obtain⟨v,ev,rv⟩:=hs.2 i t e
 exact thn (pe_var hN hv hd hcd pins s σ H (up X.K H Q) I ⟨v,ev,t,G,.refl H,hg,rv,q⟩) fun u s' h=>jQt hs h
theorem jJh {i j}:PE3 X (.Constant (.int i) j pos) (tC (.int i)):=fun pins s τ G H Q ⟨σ,I,hs,hg⟩ q=>
 thn (pe_int pins s σ H (up X.K H Q) I ⟨.int i,G,.refl H,hg,rfl,q⟩) fun u s' h=>jQt hs h
theorem e_bl {b j}:PE3 X (.Constant (.bool b) j pos) (tC (.bl b)):=fun pins s τ G H Q ⟨σ,I,hs,hg⟩ q=>
 thn (pe_bl pins s σ H (up X.K H Q) I ⟨.bl b,G,.refl H,hg,rfl,q⟩) fun u s' h=>jQt hs h
theorem jU5 {j}:PE3 X (.Constant .none j pos) (tC .non):=fun pins s τ G H Q ⟨σ,I,hs,hg⟩ q=>
 thn (pe_non pins s σ H (up X.K H Q) I ⟨.non,G,.refl H,hg,rfl,q⟩) fun u s' h=>jQt hs h
theorem e_str {x j}:PE3 X (.Constant (.str x) j pos) (tC (.str x)):=fun pins s τ G H Q ⟨σ,I,hs,hg⟩ q=>
 thn (pe_str pins s σ H (up X.K H Q) I ⟨.str x,G,.refl H,hg,rfl,q⟩) fun u s' h=>jQt hs h
end
abbrev R3:=T->T->Gp->VK3->Prop
noncomputable def Op3 (X:Cx) (f:Value->Value->Sem Value) (r:R3):Prop:=
 ∀(pins:List (Addr×Obj)) (s:Shared) (τ:St3) (G:Gp) (H:Hp) (x y:T) (v u:Value) (Q:VK3),Inv3 X pins τ G H s->RU X.K H x v->RU X.K H y u->r x y G Q->wpAny (model X.prog X.w) X.A (f v u) (EP3 X pins τ H Q) X.xe s
noncomputable def Call3 (X:Cx) (f:Value) (r:List T->Gp->VK3->Prop):Prop:=
 ∀(pins:List (Addr×Obj)) (s:Shared) (τ:St3) (G:Gp) (H:Hp) (xs:List T) (us:List Value) (Q:VK3),Inv3 X pins τ G H s->RUs X.K H xs us->r xs G Q->wpAny (model X.prog X.w) X.A (call f us) (EP3 X pins τ H Q) X.xe s
noncomputable def Mt3 (X:Cx) (id:String) (r:T->List T->Gp->VK3->Prop):Prop:=
 ∀(pins:List (Addr×Obj)) (s:Shared) (τ:St3) (G:Gp) (H:Hp) (x:T) (xs:List T) (v:Value) (us:List Value) (Q:VK3),Inv3 X pins τ G H s->RU X.K H x v->RUs X.K H xs us->r x xs G Q->
  wpAny (model X.prog X.w) X.A (call (.builtin id) (v::us)) (EP3 X pins τ H Q) X.xe s
noncomputable def Ix3 (X:Cx) (r:R3):Prop:=
 ∀(value slice:Expr) (pins:List (Addr×Obj)) (s:Shared) (τ:St3) (G:Gp) (H:Hp) (x y:T) (v u:Value) (Q:VK3),Inv3 X pins τ G H s->RU X.K H x v->RU X.K H y u->r x y G Q->
  subscripted slice false v u=operate [v,u] (getItem v u)->wpAny (model X.prog X.w) X.A (subscriptTail value slice v u) (EP3 X pins τ H Q) X.xe s
noncomputable def Set3 (X:Cx) (r:T->T->T->Gp->(Gp->Prop)->Prop):Prop:=
 ∀(pins:List (Addr×Obj)) (s:Shared) (τ:St3) (G:Gp) (H:Hp) (o i v:T) (ov iv u:Value) (Q:Gp->Prop),Inv3 X pins τ G H s->RU X.K H o ov->RU X.K H i iv->RU X.K H v u->r o i v G Q->
  wpAny (model X.prog X.w) X.A (setItem ov iv u) (fun _ s'=>∃G' H',Ext H H'/\Inv3 X pins τ G' H' s'/\Q G') X.xe s
noncomputable def Tru3 (X:Cx) (r:T->Gp->(Bool->Gp->Prop)->Prop):Prop:=
 ∀(pins:List (Addr×Obj)) (s:Shared) (τ:St3) (G:Gp) (H:Hp) (x:T) (v:Value) (Q:Bool->Gp->Prop),Inv3 X pins τ G H s->RU X.K H x v->r x G Q->wpAny (model X.prog X.w) X.A (truthy v) (TP3 X pins τ H Q) X.xe s
section
variable {X:Cx}
theorem Op3.of {f:Value->Value->Sem Value} {r:R2} {r3:R3} (h:OpR X f r)
  (hr:∀H G x y a b Q,GRel X.K H G->Rep X.K H x a->Rep X.K H y b->r3 x y G Q->r a b H (up X.K H Q)):Op3 X f r3:=by
 rintro pins s τ G H x y v u Q ⟨σ,I,hs,hg⟩ ⟨a,ra,rv⟩ ⟨b,rb,ru⟩ q
 exact thn (h pins s σ H a b v u _ I rv ru (hr H G x y a b Q hg ra rb q)) fun u s' h=>jQt hs h
theorem Call3.of {f:Value} {r:List V->Hp->VK->Prop} {r3:List T->Gp->VK3->Prop} (h:jZr X f r)
  (hr:∀H G xs as Q,GRel X.K H G->Reps X.K H xs as->r3 xs G Q->r as H (up X.K H Q)):Call3 X f r3:=by
 rintro pins s τ G H xs us Q ⟨σ,I,hs,hg⟩ ⟨as,ra,rv⟩ q
 exact thn (h pins s σ H as us _ I rv (hr H G xs as Q hg ra q)) fun u s' h=>jQt hs h
theorem Mt3.of {id:String} {r:V->List V->Hp->VK->Prop} {r3:T->List T->Gp->VK3->Prop} (h:MtR X id r)
  (hr:∀H G x xs a as Q,GRel X.K H G->Rep X.K H x a->Reps X.K H xs as->r3 x xs G Q->r a as H (up X.K H Q)):Mt3 X id r3:=by
 rintro pins s τ G H x xs v us Q ⟨σ,I,hs,hg⟩ ⟨a,ra,rv⟩ ⟨as,ras,rvs⟩ q
 exact thn (h pins s σ H a as v us _ I rv rvs (hr H G x xs a as Q hg ra ras q)) fun u s' h=>jQt hs h
theorem Ix3.of {r:R2} {r3:R3} (h:IxR X r)
  (hr:∀H G x y a b Q,GRel X.K H G->Rep X.K H x a->Rep X.K H y b->r3 x y G Q->r a b H (up X.K H Q)):Ix3 X r3:=by
 rintro value slice pins s τ G H x y v u Q ⟨σ,I,hs,hg⟩ ⟨a,ra,rv⟩ ⟨b,rb,ru⟩ q hh
 exact thn (h value slice pins s σ H a b v u _ I rv ru (hr H G x y a b Q hg ra rb q) hh) fun u s' h=>jQt hs h
theorem Set3.of {t:TSet} {r3:T->T->T->Gp->(Gp->Prop)->Prop} (h:PSet X t)
  (hr:∀H G o i v a b c Q,GRel X.K H G->Rep X.K H o a->Rep X.K H i b->Rep X.K H v c->r3 o i v G Q->t a b c H (fun H'=>∃G',Ext H H'/\GRel X.K H' G'/\Q G')):Set3 X r3:=by
 rintro pins s τ G H o i v ov iv u Q ⟨σ,I,hs,hg⟩ ⟨a,ra,rv⟩ ⟨b,rb,ru⟩ ⟨c,rc,rw'⟩ q
 exact thn (h pins s σ H a b c ov iv u _ I rv ru rw' (hr H G o i v a b c Q hg ra rb rc q)) fun _ s' ⟨H',I',G',e,g',q'⟩=>⟨G',H',e,⟨σ,I',hs.mono e,g'⟩,q'⟩
theorem Tru3.of {r:V->Hp->(Bool->Hp->Prop)->Prop} {r3:T->Gp->(Bool->Gp->Prop)->Prop} (h:TruR X r)
  (hr:∀H G x a Q,GRel X.K H G->Rep X.K H x a->r3 x G Q->r a H (fun b H'=>H'=H/\Q b G)):Tru3 X r3:=by
 rintro pins s τ G H x v Q ⟨σ,I,hs,hg⟩ ⟨a,ra,rv⟩ q
 exact thn (h pins s σ H a v _ I rv (hr H G x a Q hg ra q)) fun b s' ⟨H',I',e,q'⟩=>by
  subst e;exact⟨G,H',.refl _,⟨σ,I',hs,hg⟩,q'⟩
theorem Op3.or {f:Value->Value->Sem Value} {r r':R3} (h:Op3 X f r) (h':Op3 X f r'):Op3 X f (fun x y G Q=>r x y G Q\/r' x y G Q):=by
 intro pins s τ G H x y v u Q I rx ry q
 rcases q with q | q
 ·exact h pins s τ G H x y v u Q I rx ry q
 ·exact h' pins s τ G H x y v u Q I rx ry q
def rI (C:Int->Int->Prop) (g:Int->Int->T):R3:=fun x y G Q=>∃i j,x= .int i/\y= .int j/\C i j/\Q (g i j) G
def rI0 (g:Int->Int->T):R3:=fun x y G Q=>∃i j,x= .int i/\y= .int j/\Q (g i j) G
theorem o_I {f:Value->Value->Sem Value} {C:Int->Int->Prop} {g:Int->Int->V} {g':Int->Int->T} (h:OpR X f (L2.rI C g)) (hg':∀K H i j,Rep K H (g' i j) (g i j)):Op3 X f (rI C g'):=
 Op3.of h fun H G x y a b Q hg ra rb ⟨i,j,ex,ey,c,q⟩=>by
  subst ex;subst ey
  cases (show a= .int i from ra);cases (show b= .int j from rb)
  exact⟨i,j,rfl,rfl,c,g' i j,G,.refl H,hg,hg' _ _ i j,q⟩
theorem o_I0 {f:Value->Value->Sem Value} {g:Int->Int->V} {g':Int->Int->T} (h:OpR X f (L2.rI0 g)) (hg':∀K H i j,Rep K H (g' i j) (g i j)):Op3 X f (rI0 g'):=
 Op3.of h fun H G x y a b Q hg ra rb ⟨i,j,ex,ey,q⟩=>by
  subst ex;subst ey
  cases (show a= .int i from ra);cases (show b= .int j from rb)
  exact⟨i,j,rfl,rfl,g' i j,G,.refl H,hg,hg' _ _ i j,q⟩
theorem o_add:Op3 X (binaryOp .Add) (rI0 fun i j=> .int (i+j)):=o_I0 op_add fun _ _ _ _=>rfl
theorem kKj:Op3 X (binaryOp .Sub) (rI0 fun i j=> .int (i-j)):=o_I0 op_sub fun _ _ _ _=>rfl
theorem o_mul:Op3 X (binaryOp .Mult) (rI CMul fun i j=> .int (i*j)):=o_I op_mul fun _ _ _ _=>rfl
theorem kXu:Op3 X (binaryOp .FloorDiv) (rI CDiv fun i j=> .int (i / j)):=o_I kYn fun _ _ _ _=>rfl
theorem jXj:Op3 X (binaryOp .Mod) (rI (fun _ j=>0<j) fun i j=> .int (i%j)):=o_I op_mod fun _ _ _ _=>rfl
theorem o_pow:Op3 X (binaryOp .Pow) (rI CPow fun i j=> .int (i^j.toNat)):=o_I op_pow fun _ _ _ _=>rfl
theorem o_lt:Op3 X (compareOp .Lt) (rI0 fun i j=> .bl (decide (i<j))):=o_I0 op_lt fun _ _ _ _=>rfl
theorem o_le:Op3 X (compareOp .LtE) (rI0 fun i j=> .bl (decide (i<=j))):=o_I0 op_le fun _ _ _ _=>rfl
theorem o_gt:Op3 X (compareOp .Gt) (rI0 fun i j=> .bl (decide (j<i))):=o_I0 op_gt fun _ _ _ _=>rfl
theorem o_ge:Op3 X (compareOp .GtE) (rI0 fun i j=> .bl (decide (j<=i))):=o_I0 op_ge fun _ _ _ _=>rfl
def jU1:T->Bool
 | .non=>true
 | _=>false
theorem Rep.non_iff {K:PySem.W.Frag} {H:Hp} {x:T} {a:V} (r:Rep K H x a):decide (a= .non)=jU1 x:=by
 cases x with
 | non=>cases (show a= .non from r);rfl
 | bl b=>cases (show a= .bl b from r);rfl
 | int b=>cases (show a= .int b from r);rfl
 | str b=>cases (show a= .str b from r);rfl
 | ref b=>cases (show a= .ref b from r);rfl
 | ty b=>cases (show a= .ty b from r);rfl
 | tup b=>obtain⟨_,_,e,_⟩:=(show ∃c vs,a= .ref c/\_ from r);subst e;rfl
 | scr b=>obtain⟨_,_,e,_⟩:=(show ∃c vs,a= .ref c/\_ from r);subst e;rfl
theorem kQp:Op3 X (compareOp .Is) (fun x y G Q=>y= .non/\Q (.bl (jU1 x)) G):=
 Op3.of op_isN fun H G x y a b Q hg ra rb ⟨ey,q⟩=>by
  subst ey;cases (show b= .non from rb)
  exact⟨rfl,.bl (jU1 x),G,.refl H,hg,by rw[ra.non_iff];rfl,q⟩
theorem o_notN:Op3 X (compareOp .IsNot) (fun x y G Q=>y= .non/\Q (.bl (!jU1 x)) G):=
 Op3.of kYm fun H G x y a b Q hg ra rb ⟨ey,q⟩=>by
  subst ey;cases (show b= .non from rb)
  exact⟨rfl,.bl (!jU1 x),G,.refl H,hg,by rw[ra.non_iff];rfl,q⟩
end
def tOp (r:R3) (ta tb:TE3):TE3:=fun τ G Q=>ta τ G fun x G1=>tb τ G1 fun y G2=>r x y G2 Q
def tUn (r:T->Gp->VK3->Prop) (ta:TE3):TE3:=fun τ G Q=>ta τ G fun x G1=>r x G1 Q
def jJx (t:TE3):TT3:=fun τ G Q=>t τ G fun x G1=>∃c,x= .bl c/\Q c G1
def tAnd (t u:TT3):TT3:=fun τ G Q=>t τ G fun c G1=>if c=true then u τ G1 Q else Q false G1
def tOr (t u:TT3):TT3:=fun τ G Q=>t τ G fun c G1=>if c=true then Q true G1 else u τ G1 Q
def tNot (t:TT3):TT3:=fun τ G Q=>t τ G fun c G1=>Q (!c) G1
def jVz (ta tb:TE3):TE3:=fun τ G Q=>ta τ G fun x G1=>∃c,x= .bl c/\if c=true then tb τ G1 Q else Q (.bl false) G1
def tOrV (ta tb:TE3):TE3:=fun τ G Q=>ta τ G fun x G1=>∃c,x= .bl c/\if c=true then Q (.bl true) G1 else tb τ G1 Q
def tNotV (ta:TE3):TE3:=fun τ G Q=>ta τ G fun x G1=>∃c,x= .bl c/\Q (.bl (!c)) G1
def tIf (t:TT3) (ta tb:TE3):TE3:=fun τ G Q=>t τ G fun c G1=>if c=true then ta τ G1 Q else tb τ G1 Q
def tNil:TA3:=fun _ G Q=>Q [] G
def jJb (ta:TE3) (tr:TA3):TA3:=fun τ G Q=>ta τ G fun x G1=>tr τ G1 fun xs G2=>Q (x::xs) G2
def tTup (t:TA3):TE3:=fun τ G Q=>t τ G fun xs G1=>xs.length<=sizeLine/\Q (.tup xs) G1
def tLst (t:TA3):TE3:=fun τ G Q=>t τ G fun xs G1=>xs.length<=sizeLine/\∀p,G1 p=none->Q (.ref p) (gup G1 p (.lst xs))
def tCB (r:List T->Gp->VK3->Prop) (t:TA3):TE3:=fun τ G Q=>t τ G fun xs G1=>r xs G1 Q
section
variable {X:Cx} {a b c:Expr} {ta tb tc:TE3} {tA tB:TT3} {pos:Pos} {rest es:List Expr} {t:TA3}
theorem e_op {op:Operator} {r:R3} (ho:Op3 X (binaryOp op) r) (ha:PE3 X a ta) (hb:PE3 X b tb):PE3 X (.BinOp a op b pos) (tOp r ta tb):=by
 intro pins s τ G H Q I h
 exact wpAny_BinOp (bin3 ha hb I h fun v u s2 x y G2 H2 e I2 rx ry q=>thn (ho pins s2 τ G2 H2 x y v u Q I2 rx ry q) fun _ _ z=>z.ext e)
theorem jUk {op:CmpOp} {r:R3} (ho:Op3 X (compareOp op) r) (ha:PE3 X a ta) (hb:PE3 X b tb) (hm:behindInMarks op b=false):PE3 X (.Compare a [op] [b] pos) (tOp r ta tb):=by
 intro pins s τ G H Q I h
 exact wpAny_Compare1 (bin3 ha hb I h fun v u s2 x y G2 H2 e I2 rx ry q=>thn (ho pins s2 τ G2 H2 x y v u Q I2 rx ry q) fun _ _ z=>z.ext e) hm
theorem jK3 {op:CmpOp} {r:R3} (ho:Op3 X (compareOp op) r) (ha:PE3 X a ta) (hb:PE3 X b tb) (hm:behindInMarks op b=false):PT3 X (.Compare a [op] [b] pos) (jJx (tOp r ta tb)):=by
 intro pins s τ G H Q I h
 refine wpAny_isTrue_Compare1 (bin3 ha hb I h fun v u s2 x y G2 H2 e I2 rx ry q=>thn (ho pins s2 τ G2 H2 x y v u _ I2 rx ry q) fun w' s3 w_=>w_.el fun z G3 H3 e3 I3 r3 ⟨k,ez,q3⟩=> ?_) hm
 subst ez
 obtain⟨v',rv',ru'⟩:=r3
 cases (show v'= .bl k from rv');cases ru'
 exact wpAny_truthy_bool ⟨G3,H3,e.trans e3,I3,q3⟩
theorem kU4 {e:Expr} {t:TE3} (h:PE3 X e t) (he:∀whole,isTrue e X.env whole=(do let v <-whole;standAt e.pos;holding [v] (truthy v)):=by intro _;rfl):PT3 X e (jJx t):=by
 intro pins s τ G H Q I hw
 refine isTrue_plain (thn (h pins s τ G H _ I hw) fun v s1 w_=>w_.el fun x G1 H1 e1 I1 r1 ⟨k,ez,q1⟩=> ?_) (he _)
 subst ez
 obtain⟨v',rv',ru'⟩:=r1
 cases (show v'= .bl k from rv');cases ru'
 exact wpAny_truthy_bool ⟨G1,H1,e1,I1,q1⟩
def tTru (r:T->Gp->(Bool->Gp->Prop)->Prop) (t:TE3):TT3:=fun τ G Q=>t τ G fun x G1=>r x G1 Q
theorem t_tru {e:Expr} {t:TE3} {r:T->Gp->(Bool->Gp->Prop)->Prop} (hr:Tru3 X r) (h:PE3 X e t) (he:∀whole,isTrue e X.env whole=(do let v <-whole;standAt e.pos;holding [v] (truthy v)):=by intro _;rfl):PT3 X e (tTru r t):=by
 intro pins s τ G H Q I hw
 exact isTrue_plain (thn (h pins s τ G H _ I hw) fun v s1 w_=>w_.el fun x G1 H1 e1 I1 r1 q1=>thn (hr pins s1 τ G1 H1 x v Q I1 r1 q1) fun _ _ z=>z.ext e1) (he _)
theorem w_or1 (ha:PT3 X a tA):PW3 X (.BoolOp .Or [a] pos) tA:=by
 intro wh pins s τ G H Q I h
 refine isTrue_or (thn (ha pins s τ G H Q I h) fun c s1 e=> ?_)
 cases c with
 | false=>exact isTrue_or_nil e
 | true=>exact e
theorem w_or (ha:PT3 X a tA) (hb:PW3 X (.BoolOp .Or (b::rest) pos) tB):PW3 X (.BoolOp .Or (a::b::rest) pos) (tOr tA tB):=by
 intro wh pins s τ G H Q I h
 refine isTrue_or (thn (ha pins s τ G H _ I h) fun c s1 w_=>w_.el fun G1 H1 e1 I1 q1=> ?_)
 cases c with
 | true=>exact⟨G1,H1,e1,I1,q1⟩
 | false=>exact thn (hb wh pins s1 τ G1 H1 Q I1 q1) fun _ _ z=>z.ext e1
theorem kX7 (ha:PT3 X a tA):PT3 X (.UnaryOp .Not a pos) (tNot tA):=by
 intro pins s τ G H Q I h
 exact isTrue_not (thn (ha pins s τ G H (fun c G1=>Q (!c) G1) I h) fun c s1 w_=>w_.el fun G1 H1 e1 I1 q1=>⟨G1,H1,e1,I1,q1⟩)
theorem kKn {op} {t:TE3} (h:PE3 X a t):PE3 X (.BoolOp op [a] pos) t:=fun pins s τ G H Q I hw=>BoolOp_one (h pins s τ G H Q I hw)
theorem jZd (ha:PE3 X a ta) (hb:PE3 X (.BoolOp .And (b::rest) pos) tb):PE3 X (.BoolOp .And (a::b::rest) pos) (jVz ta tb):=by
 intro pins s τ G H Q I h
 refine BoolOp_and (thn (ha pins s τ G H _ I h) fun v s1 w_=>w_.el fun x G1 H1 e1 I1 r1 ⟨k,ez,q1⟩=> ?_)
 subst ez
 obtain⟨v',rv',ru'⟩:=r1
 cases (show v'= .bl k from rv');cases ru'
 refine wpAny_truthy_bool ?_
 cases k with
 | true=>exact thn (hb pins s1 τ G1 H1 Q I1 q1) fun _ _ z=>z.ext e1
 | false=>exact⟨.bl false,G1,H1,e1,I1,⟨.bl false,rfl,rfl⟩,q1⟩
theorem jZ9 (hc:PT3 X c tA) (ha:PE3 X a ta) (hb:PE3 X b tb):PE3 X (.IfExp c a b pos) (tIf tA ta tb):=by
 intro pins s τ G H Q I h
 refine IfExp_ (thn (hc pins s τ G H _ I h) fun k s1 w_=>w_.el fun G1 H1 e1 I1 q1=> ?_)
 cases k with
 | true=>exact thn (ha pins s1 τ G1 H1 Q I1 q1) fun _ _ z=>z.ext e1
 | false=>exact thn (hb pins s1 τ G1 H1 Q I1 q1) fun _ _ z=>z.ext e1
theorem jJf:PA3 X [] tNil:=fun _ _ _ _ G H Q I h=>Calls.spliced_nil ⟨[],G,H,.refl H,I,⟨[],rfl,.nil⟩,h⟩
theorem jJa {e:Expr} {te:TE3} (ha:PE3 X e te) (hr:PA3 X es t) (hs:starEach (e::es) X.env=(false,eval e X.env)::starEach es X.env:=by rfl):PA3 X (e::es) (jJb te t):=by
 intro pos pins s τ G H Q I h
 rw[hs]
 show wpAny _ _ (spliced ((false,eval e X.env)::backTo pos (starEach es X.env))) _ _ s
 refine Calls.spliced_cons (thn (ha pins s τ G H _ I h) fun u s1 w_=>w_.el fun x G1 H1 e1 I1 r1 q1=> ?_)
 refine thn (hr pos pins s1 τ G1 H1 _ I1 q1) fun us s2 w_=>w_.el fun xs G2 H2 e2 I2 r_ q2=>r_.el fun vs rs rv=> ?_
 obtain⟨v,rr,rvv⟩:=r1.mono e2
 exact⟨x::xs,G2,H2,e1.trans e2,I2,⟨v::vs,⟨v,vs,rfl,rr,rs⟩,.cons rvv rv⟩,q2⟩
theorem jQb {x1} (h:PA3 X es t):PE3 X (.Tuple es x1 pos) (tTup t):=by
 intro pins s τ G H Q I hq
 refine wpAny_Tuple_spliced (thn (h pos pins s τ G H _ I hq) fun us s1 w_=>w_.el fun xs G1 H1 e1 i_ r_ ⟨z,q⟩=>i_.el fun σ I1 hs1 hg1=>r_.el fun vs rs rv=>⟨by rw[<-rv.length,<-rs.length];exact z,?_⟩)
 have hf:H1 s1.heap.objs.size=none:=I1.hok.fresh (Nat.le_refl _)
 have e2:Ext H1 (upd H1 s1.heap.objs.size (.tup vs)):= .upd (.none hf)
 refine⟨.tup xs,G1,upd H1 s1.heap.objs.size (.tup vs),e1.trans e2,⟨σ,I1.laid (t':=s1.toks) (fun b u e=>Heap.get?_push_of_some _ e) (Nat.le_refl _) ?_,hs1.mono e2,hg1.tupNew hf⟩,⟨.ref s1.heap.objs.size,Rep.tupNew rs hf,rfl⟩,q⟩
 exact⟨by rw[<-rs.length];exact z,us,rv,⟨_,Heap.get?_push_size _ rfl,rfl,_,rfl,rfl⟩⟩
theorem jU6 (h:PA3 X es t):PE3 X (.List es pos) (tLst t):=by
 intro pins s τ G H Q I hq
 refine wpAny_List_spliced (thn (h pos pins s τ G H _ I hq) fun us s1 w_=>w_.el fun xs G1 H1 e1 i_ r_ ⟨z,q⟩=>i_.el fun σ I1 hs1 hg1=>r_.el fun vs rs rv=>⟨by rw[<-rv.length,<-rs.length];exact z,?_⟩)
 have hf:H1 s1.heap.objs.size=none:=I1.hok.fresh (Nat.le_refl _)
 have e2:Ext H1 (upd H1 s1.heap.objs.size (.lst vs)):= .upd (.none hf)
 refine⟨.ref s1.heap.objs.size,gup G1 s1.heap.objs.size (.lst xs),upd H1 s1.heap.objs.size (.lst vs),e1.trans e2,⟨σ,I1.laid (t':=s1.toks) (fun b u e=>Heap.get?_push_of_some _ e) (Nat.le_refl _) ?_,hs1.mono e2,hg1.lstNew rs (.none hf)⟩,⟨.ref s1.heap.objs.size,rfl,rfl⟩,q _ (hg1.fresh hf)⟩
 exact⟨by rw[<-rs.length];exact z,us,0,rv,Heap.get?_push_size _ rfl⟩
theorem e_ix {r:R3} (hr:Ix3 X r) (ha:PE3 X a ta) (hb:PE3 X b tb) (hs:kZt b):PE3 X (.Subscript a b pos) (tOp r ta tb):=by
 intro pins s τ G H Q I h
 exact Subscript_ (bin3 ha hb I h fun v u s2 x y G2 H2 e I2 rx ry q=>thn (hr a b pins s2 τ G2 H2 x y v u Q I2 rx ry q (hs _ _)) fun _ _ z=>z.ext e)
def rIx:R3:=fun x y G Q=>∃xs i t,seqT G x=some xs/\y= .int i/\atI xs i=some t/\Q t G
theorem jUm {o:Option GO} {xs:List T} (h:asL o=some xs):o=some (.lst xs):=by
 cases o with
 | none=>cases h
 | some g=>cases g with
  | lst ys=>cases h;rfl
  | dct _=>cases h
  | dck _=>cases h
  | fdc _=>cases h
  | ins _ _=>cases h
  | exc _=>cases h
theorem jQq {K:PySem.W.Frag} {H:Hp} {G:Gp} {x:T} {a:V} {xs:List T} (hg:GRel K H G) (r:Rep K H x a) (h:seqT G x=some xs):
  ∃p vs,a= .ref p/\(SqL K H p vs\/SqT K H p vs)/\Reps K H xs vs:=by
 cases x with
 | tup ys=>cases h;obtain⟨p,vs,e,h1,h2⟩:=(show ∃p vs,a= .ref p/\H p=some (.tup vs)/\Reps K H xs vs from r);exact⟨p,vs,e,.inr (.of h1),h2⟩
 | scr ys=>cases h;obtain⟨p,vs,e,h1,h2⟩:=(show ∃p vs,a= .ref p/\FrL K H p vs/\Reps K H xs vs from r);exact⟨p,vs,e,.inl h1.sq,h2⟩
 | ref p=>
  obtain⟨vs,h1,h2⟩:=hg.lst (jUm h)
  exact⟨p,vs,r,.inl (.of h1),h2⟩
 | non=>cases h
 | bl _=>cases h
 | int _=>cases h
 | str _=>cases h
 | ty _=>cases h
theorem ix_any:Ix3 X rIx:=
 Ix3.of (ix_list.or ix_tup) fun H G x y a b Q hg ra rb ⟨xs,i,t,hx,ey,ht,q⟩=>by
  subst ey;cases (show b= .int i from rb)
  obtain⟨p,vs,e,hq,r⟩:=jQq hg ra hx
  subst e
  obtain⟨v,hv,rv⟩:=r.atI ht
  rcases hq with hq | hq
  ·exact .inl ⟨p,vs,i,v,rfl,rfl,hq,hv,t,G,.refl H,hg,rv,q⟩
  ·exact .inr ⟨p,vs,i,v,rfl,rfl,hq,hv,t,G,.refl H,hg,rv,q⟩
theorem jJn {id:String} {r:List T->Gp->VK3->Prop} {x:Str} {p:Pos} {e:Expr} (hc:Call3 X (.builtin id) r) (hg:Gl X x) (hm:X.mg x=none) (hv:bootBuiltins x=some (.builtin id)) (ha:PA3 X (e::es) t) (hn:x≠"__name__":=by decide) (hdb:(x == ("__debug__":Str))=false:=by decide)
  (he:starEach (e::es) X.env=(false,eval e X.env)::starEach es X.env:=by rfl) (hpl:(backTo pos (starEach es X.env)).any (·.1)=false:=by rfl):PE3 X (.Call (.Name x p) (e::es) [] pos) (tCB r t):=by
 intro pins s τ G H Q I h
 obtain⟨σ,I0,hs0,hg0⟩:=_root_.id I
 refine wpAny_Call_Name_kw (jUf I0 hg hm hv ?_ hn hdb)
 exact PyProof.Rows.callWith_builtin1 (thn (ha pos pins s τ G H _ I h) fun us s1 w_=>w_.el fun xs G1 H1 e1 I1 r1 q1=>thn (hc pins s1 τ G1 H1 xs us Q I1 r1 q1) fun _ _ z=>z.ext e1) he hpl
theorem jUl {T0:String} {r:List T->Gp->VK3->Prop} {x:Str} {p:Pos} {e:Expr} (hc:Call3 X (.type T0) r) (hg:Gl X x) (hm:X.mg x=none) (hv:bootBuiltins x=some (.type T0)) (ha:PA3 X (e::es) t) (hn:x≠"__name__":=by decide) (hdb:(x == ("__debug__":Str))=false:=by decide)
  (he:starEach (e::es) X.env=(false,eval e X.env)::starEach es X.env:=by rfl) (hpl:(backTo pos (starEach es X.env)).any (·.1)=false:=by rfl):PE3 X (.Call (.Name x p) (e::es) [] pos) (tCB r t):=by
 intro pins s τ G H Q I h
 obtain⟨σ,I0,hs0,hg0⟩:=_root_.id I
 refine wpAny_Call_Name_kw (jUf I0 hg hm hv ?_ hn hdb)
 exact PyProof.Rows.callWith_type1 (thn (ha pos pins s τ G H _ I h) fun us s1 w_=>w_.el fun xs G1 H1 e1 I1 r1 q1=>thn (hc pins s1 τ G1 H1 xs us Q I1 r1 q1) fun _ _ z=>z.ext e1) he hpl
theorem jVg {K:PySem.W.Frag} {H:Hp} {x:T} {vs:List V} (h:Reps K H [x] vs):∃v,vs=[v]/\Rep K H x v:=by
 obtain⟨v,ws,rfl,r,e⟩:=h;cases e;exact⟨v,rfl,r⟩
theorem kKb {K:PySem.W.Frag} {H:Hp} {x y:T} {vs:List V} (h:Reps K H [x,y] vs):∃v w,vs=[v,w]/\Rep K H x v/\Rep K H y w:=by
 obtain⟨v,ws,rfl,r,w,ws2,rfl,r2,e⟩:=h;cases e;exact⟨v,w,rfl,r,r2⟩
def rLen:List T->Gp->VK3->Prop:=fun xs G Q=>∃x ys,xs=[x]/\seqT G x=some ys/\Q (.int ys.length) G
theorem jQl:Call3 X (.builtin "len") rLen:=
 Call3.of jZh fun H G xs as Q hg ra ⟨x,ys,e,hx,q⟩=>by
  subst e
  obtain⟨v,rfl,rv⟩:=jVg ra
  obtain⟨p,vs,rfl,hq,r⟩:=jQq hg rv hx
  exact⟨p,vs,rfl,hq,.int ys.length,G,.refl H,hg,by rw[r.length];rfl,q⟩
def rAbs:List T->Gp->VK3->Prop:=fun xs G Q=>∃i,xs=[.int i]/\Q (.int (if i<0 then -i else i)) G
theorem c_abs:Call3 X (.builtin "abs") rAbs:=
 Call3.of kXi fun H G xs as Q hg ra ⟨i,e,q⟩=>by
  subst e
  obtain⟨v,rfl,rv⟩:=jVg ra
  cases (show v= .int i from rv)
  exact⟨i,rfl,.int _,G,.refl H,hg,rfl,q⟩
def rMax:List T->Gp->VK3->Prop:=fun xs G Q=>∃i j,xs=[.int i,.int j]/\Q (.int (if j>i then j else i)) G
theorem c_max (hc:X.calm=true):Call3 X (.builtin "max") rMax:=
 Call3.of (kUq hc) fun H G xs as Q hg ra ⟨i,j,e,q⟩=>by
  subst e
  obtain⟨v,w,rfl,rv,rw'⟩:=kKb ra
  cases (show v= .int i from rv);cases (show w= .int j from rw')
  exact⟨i,j,rfl,.int _,G,.refl H,hg,rfl,q⟩
def kQg:List T->Gp->VK3->Prop:=fun xs G Q=>∃k,xs=[.bl k]/\Q (.int (if k then 1 else 0)) G
theorem c_int:Call3 X (.type "int") kQg:=
 Call3.of kUr fun H G xs as Q hg ra ⟨k,e,q⟩=>by
  subst e
  obtain⟨v,rfl,rv⟩:=jVg ra
  cases (show v= .bl k from rv)
  exact .inr ⟨k,rfl,.int _,G,.refl H,hg,rfl,q⟩
def kYj:List T->Gp->VK3->Prop:=fun xs G Q=>∃i j,xs=[.int i,.int j]/\CDiv i j/\Q (.tup [.int (i / j),.int (i%j)]) G
def kQf:List T->Gp->VK3->Prop:=fun xs G Q=>∃x ys,xs=[x]/\seqT G x=some ys/\∀p,G p=none->Q (.ref p) (gup G p (.lst ys))
def jJ0:List T->Gp->VK3->Prop:=fun xs G Q=>∃x ys,xs=[x]/\seqT G x=some ys/\Q (.tup ys) G
theorem jYu:Call3 X (.type "tuple") jJ0:=
 Call3.of jYt fun H G xs as Q hg ra ⟨x,ys,e,hx,q⟩=>by
  subst e
  obtain⟨v,rfl,rv⟩:=jVg ra
  obtain⟨p,vs,rfl,hq,r⟩:=jQq hg rv hx
  cases x with
  | tup zs=>
   cases hx
   obtain⟨p',vs',e',h1,h2⟩:=(show ∃p' vs',V.ref p= .ref p'/\H p'=some (.tup vs')/\Reps X.K H ys vs' from rv)
   cases e'
   exact⟨p,vs',rfl,.inr ⟨.of h1,.tup ys,G,.refl H,hg,⟨p,vs',rfl,h1,h2⟩,q⟩⟩
  | scr zs=>
   cases hx
   obtain⟨p',vs',e',h1,h2⟩:=(show ∃p' vs',V.ref p= .ref p'/\FrL X.K H p' vs'/\Reps X.K H ys vs' from rv)
   cases e'
   exact⟨p,vs',rfl,.inl ⟨h1.sq,fun l hl=>⟨.tup ys,G,.upd (.none hl),hg.tupNew hl,Rep.tupNew h2 hl,q⟩⟩⟩
  | ref p'=>
   cases (show V.ref p= .ref p' from rv)
   obtain⟨vs',h1,h2⟩:=hg.lst (jUm hx)
   exact⟨p,vs',rfl,.inl ⟨.of h1,fun l hl=>⟨.tup ys,G,.upd (.none hl),hg.tupNew hl,Rep.tupNew h2 hl,q⟩⟩⟩
  | non=>cases hx
  | bl _=>cases hx
  | int _=>cases hx
  | str _=>cases hx
  | ty _=>cases hx
noncomputable def rCat:R3:=fun x y G Q=>∃p q xs ys,x= .ref p/\y= .ref q/\G p=some (.lst xs)/\G q=some (.lst ys)/\xs.length+ys.length<=sizeLine/\∀l,G l=none->Q (.ref l) (gup G l (.lst (xs++ys)))
noncomputable def rRep:R3:=fun x y G Q=>∃p xs n,x= .ref p/\y= .int n/\G p=some (.lst xs)/\n.toNat * xs.length<=sizeLine/\n<2^62/\ -(2^62)<n/\∀l,G l=none->Q (.ref l) (gup G l (.lst (List.replicate n.toNat xs).flatten))
noncomputable def tyT (G:Gp) (T0:String) (x:T):Prop:=match x with
 | .str _=>T0="str"
 | .int _=>T0="int"
 | .ref p=>(T0="list"/\∃xs,G p=some (.lst xs))\/(T0="dict"/\((∃kvs,G p=some (.dck kvs))\/∃kvs,G p=some (.dct kvs)))
 | _=>False
theorem tyT.of {K:PySem.W.Frag} {H:Hp} {G:Gp} {T0:String} {x:T} {a:V} (hg:GRel K H G) (r:Rep K H x a) (h:tyT G T0 x):tyV K T0 a H:=by
 cases x with
 | str z=>cases (show a= .str z from r);exact h
 | int z=>cases (show a= .int z from r);exact h
 | ref p=>
  cases (show a= .ref p from r)
  rcases h with ⟨e,xs,h⟩ | ⟨e,h⟩
  ·obtain⟨vs,h1,_⟩:=hg.lst h;exact .inl ⟨e,vs,.of h1⟩
  ·refine .inr (.inr (.inl ⟨e,?_⟩))
   rcases h with ⟨kvs,h⟩ | ⟨kvs,h⟩
   ·obtain⟨ws,h1,_⟩:=hg p _ h;exact .inl ⟨ws,h1⟩
   ·obtain⟨ws,h1,_⟩:=hg p _ h;exact .inr ⟨ws,h1⟩
 | non=>exact False.elim h
 | bl _=>exact False.elim h
 | ty _=>exact False.elim h
 | tup _=>exact False.elim h
 | scr _=>exact False.elim h
def tBM (T0:String) (r:T->List T->Gp->VK3->Prop) (to:TE3) (t:TA3):TE3:=fun τ G Q=>to τ G fun x G1=>tyT G1 T0 x/\t τ G1 fun xs G2=>r x xs G2 Q
theorem e_bm {T0 id:String} {r:T->List T->Gp->VK3->Prop} {o e:Expr} {name:Str} {apos cpos:Pos} {to:TE3} (pa:PlainAttrs T0) (slot:Slot T0 name id) (hty:typeOf (.builtin id)=pure (.type "method_descriptor")) (hm:Mt3 X id r) (ho:PE3 X o to) (ha:PA3 X (e::es) t)
  (hbase:attributeBase o name X.env (eval o X.env)=eval o X.env:=by rfl)
  (hfew:((backTo cpos (starEach (e::es) X.env)).all (fun x=> !x.1)&&(backToKw cpos (keywordEach [] X.env)).all (fun x=>x.1.isSome)
   &&decide ((e::es).length+([]:List Keyword).length+(if ([]:List Keyword).isEmpty then 0 else 1)<30))=true:=by rfl)
  (hline:(apos.endLine == cpos.line)=true:=by rfl) (hs:starEach (e::es) X.env=(false,eval e X.env)::starEach es X.env:=by rfl) (hplain:(backTo cpos (starEach es X.env)).any (·.1)=false:=by rfl):
  PE3 X (.Call (.Attribute o name apos) (e::es) [] cpos) (tBM T0 r to t):=by
 intro pins s τ G H Q I h
 refine wpAny_Call_method_late hbase hfew hline rfl (thn (ho pins s τ G H _ I h) fun v s1 w_=>w_.el fun x G1 H1 e1 I1 r1 ⟨ty,q1⟩=> ?_)
 obtain⟨σ,I0,hs0,hg0⟩:=_root_.id I1
 obtain⟨a0,ra0,rv0⟩:=_root_.id r1
 obtain⟨h1,h2⟩:=tyV_is I0 rv0 (tyT.of hg0 ra0 ty)
 refine⟨T0,id,pa,slot,hty,h1,h2,?_⟩
 have hA:=ha cpos pins s1 τ G1 H1 _ I1 q1
 rw[hs] at hA ⊢
 refine Calls.callWith_builtin (by show (false||(backTo cpos (starEach es X.env)).any (·.1))=false;rw[hplain]<;>rfl) (Calls.evalArgs_plain ?_)
 exact thn hA fun us s2 w_=>w_.el fun vs G2 H2 e2 I2 r2 q2=>thn (hm pins s2 τ G2 H2 x vs v us Q I2 (r1.mono e2) r2 q2) fun _ _ z=>(z.ext e2).ext e1
def jKx:T->List T->Gp->VK3->Prop:=fun x xs G Q=>∃p ys y,x= .ref p/\xs=[y]/\G p=some (.lst ys)/\ys.length<sizeLine/\Q .non (gup G p (.lst (ys++[y])))
def kVj:T->T->T->Gp->(Gp->Prop)->Prop:=fun o i v G Q=>∃p xs k j,o= .ref p/\i= .int k/\G p=some (.lst xs)/\ixN xs.length k=some j/\Q (gup G p (.lst (xs.set j v)))
theorem s_list:Set3 X kVj:=
 Set3.of kU9 fun H G o i v a b c Q hg ra rb rc ⟨p,xs,k,j,eo,ei,hp,hj,q⟩=>by
  subst eo;subst ei
  cases (show a= .ref p from ra);cases (show b= .int k from rb)
  obtain⟨vs,h1,h2⟩:=hg.lst hp
  exact⟨p,vs,k,j,rfl,rfl,h1,by rw[<-h2.length];exact hj,_,.upd (.lst h1),hg.lstNew (h2.set rc j) (.lst h1),q⟩
end
section
variable {X:Cx}
theorem o_cat:Op3 X (binaryOp .Add) rCat:=
 Op3.of op_cat fun H G x y a b Q hg ra rb ⟨p,q,xs,ys,ex,ey,hp,hq,hz,h⟩=>by
  subst ex;subst ey
  cases (show a= .ref p from ra);cases (show b= .ref q from rb)
  obtain⟨vs,h1,h2⟩:=hg.lst hp
  obtain⟨ws,h3,h4⟩:=hg.lst hq
  exact⟨p,q,vs,ws,rfl,rfl,h1,h3,by rw[<-h2.length,<-h4.length];exact hz,fun l hl=>⟨.ref l,_,.upd (.none hl),hg.lstNew (h2.append h4) (.none hl),rfl,h l (hg.fresh hl)⟩⟩
theorem o_rep:Op3 X (binaryOp .Mult) rRep:=
 Op3.of op_rep fun H G x y a b Q hg ra rb ⟨p,xs,n,ex,ey,hp,hz,h1,h2,h⟩=>by
  subst ex;subst ey
  cases (show a= .ref p from ra);cases (show b= .int n from rb)
  obtain⟨vs,h3,h4⟩:=hg.lst hp
  refine⟨p,n,vs,rfl,rfl,h3,by omega,by omega,by rw[<-h4.length,Nat.mul_comm];exact hz,fun l hl=>⟨.ref l,_,.upd (.none hl),hg.lstNew (h4.rep _) (.none hl),rfl,h l (hg.fresh hl)⟩⟩
theorem jQz:Mt3 X "list.append" jKx:=
 Mt3.of kQr fun H G x xs a as Q hg ra ras ⟨p,ys,y,ex,exs,hp,hz,q⟩=>by
  subst ex;subst exs
  cases (show a= .ref p from ra)
  obtain⟨v,rfl,rv⟩:=jVg ras
  obtain⟨vs,h1,h2⟩:=hg.lst hp
  exact⟨p,vs,v,rfl,rfl,h1,by rw[<-h2.length];exact hz,.non,_,.upd (.lst h1),hg.lstNew (h2.append (.one rv)) (.lst h1),rfl,q⟩
end
def jJ6:TS3:=fun D τ G=>D.nx τ G
def tSeq (t u:TS3):TS3:=fun D τ G=>t {D with nx:=u D} τ G
def jUq (te:TE3):TS3:=fun D τ G=>te τ G fun _ G1=>D.nx τ G1
def tRet (te:TE3):TS3:=fun D τ G=>te τ G D.rt
def tRetN:TS3:=fun D _ G=>D.rt .non G
def tIfS (c:TT3) (t u:TS3):TS3:=fun D τ G=>c τ G fun b G1=>if b=true then t D τ G1 else u D τ G1
def kU6:TS3:=fun D τ G=>D.ct τ G
section
variable {X:Cx} {st:Stmt} {rest:List Stmt} {t u:TS3} {e:Expr} {te:TE3} {pos:Pos}
theorem jJ7:PSs3 X [] jJ6:=fun _ _ τ G H _ I h=>wpAny_execs_nil ⟨τ,G,H,.refl H,I,h⟩
theorem jJe (h1:PS3 X st t) (h2:PSs3 X rest u):PSs3 X (st::rest) (tSeq t u):=by
 intro pins s τ G H D I h
 refine wpAny_execs_cons (thn (h1 pins s τ G H {D with nx:=u D} I h) fun f s1 q=> ?_)
 cases f with
 | next=>
  obtain⟨τ',G',H',e',I',q⟩:=q
  exact thn (h2 pins s1 τ' G' H' D I' q) fun _ _ z=>z.ext e'
 | ret v=>exact q
 | brk=>exact q
 | cont=>exact q
theorem jJi (h1:PS3 X st t):PSs3 X [st] t:=by
 intro pins s τ G H D I h
 refine wpAny_execs_cons (thn (h1 pins s τ G H D I h) fun f s1 q=> ?_)
 cases f with
 | next=>exact wpAny_execs_nil q
 | ret v=>exact q
 | brk=>exact q
 | cont=>exact q
theorem s_cont:PS3 X (.Continue pos) kU6:=fun _ _ τ G H _ I h=>wpAny_Continue ⟨τ,G,H,.refl H,I,h⟩
theorem jXp (he:PE3 X e te) (hs:swapsWith e none pos.line X.env=pure false:=by rfl):PS3 X (.Expr e pos) (jUq te):=by
 intro pins s τ G H D I h
 obtain⟨σ,I0,hs0,hg0⟩:=id I
 exact wpAny_Expr_any (thn (he pins s τ G H _ I h) fun v s1 w_=>w_.el fun x G1 H1 e1 I1 r1 q1=>⟨τ,G1,H1,e1,I1,q1⟩) I0.quiet hs
theorem jKm (he:PE3 X e te):PS3 X (.Return (some e) pos) (tRet te):=by
 intro pins s τ G H D I h
 exact wpAny_Return_some (thn (he pins s τ G H _ I h) fun v s1 w_=>w_.el fun x G1 H1 e1 I1 r1 q1=>⟨x,τ,G1,H1,e1,I1,r1,q1⟩)
theorem s_if {c:Expr} {a b:List Stmt} {tc:TT3} (hc:PT3 X c tc) (ha:PSs3 X a t) (hb:PSs3 X b u):PS3 X (.If c a b pos) (tIfS tc t u):=by
 intro pins s τ G H D I h
 refine wpAny_If (thn (hc pins s τ G H _ I h) fun d s1 w_=>w_.el fun G1 H1 e1 I1 q1=> ?_)
 cases d with
 | true=>exact thn (ha pins s1 τ G1 H1 D I1 q1) fun _ _ z=>z.ext e1
 | false=>exact thn (hb pins s1 τ G1 H1 D I1 q1) fun _ _ z=>z.ext e1
end
abbrev TG3:=T->St3->Gp->(St3->Gp->Prop)->Prop
abbrev TGs3:=List T->St3->Gp->(St3->Gp->Prop)->Prop
def GP3 (X:Cx) (pins:List (Addr×Obj)) (H:Hp) (Q:St3->Gp->Prop) (s':Shared):Prop:=∃ τ' G' H',Ext H H'/\Inv3 X pins τ' G' H' s'/\Q τ' G'
noncomputable def PG3 (X:Cx) (target:Expr) (t:TG3):Prop:=
 ∀(pins:List (Addr×Obj)) (s:Shared) (τ:St3) (G:Gp) (H:Hp) (v:T) (u:Value) (Q:St3->Gp->Prop),Inv3 X pins τ G H s->RU X.K H v u->t v τ G Q->
  wpAny (model X.prog X.w) X.A (assign target X.env u) (fun _ s'=>GP3 X pins H Q s') X.xe s
noncomputable def PGs3 (X:Cx) (ts:List Expr) (t:TGs3):Prop:=
 ∀(pins:List (Addr×Obj)) (s:Shared) (τ:St3) (G:Gp) (H:Hp) (vs:List T) (us:List Value) (Q:St3->Gp->Prop),Inv3 X pins τ G H s->RUs X.K H vs us->t vs τ G Q->
  wpAny (model X.prog X.w) X.A (assignInOrder ((assignEach ts X.env).map (·.2)) us) (fun _ s'=>GP3 X pins H Q s') X.xe s
def jJd (i:Nat):TG3:=fun v τ G Q=>Q (τ.set i (some v)) G
def gNil:TGs3:=fun vs τ G Q=>vs=[]/\Q τ G
def jJu (t:TG3) (u:TGs3):TGs3:=fun vs τ G Q=>∃v r,vs=v::r/\t v τ G fun τ' G'=>u r τ' G' Q
def gTup (n:Nat) (t:TGs3):TG3:=fun v τ G Q=>∃xs,v= .tup xs/\xs.length=n/\t xs τ G Q
def gSub (to ti:TE3) (t:T->T->T->Gp->(Gp->Prop)->Prop):TG3:=fun v τ G Q=>to τ G fun o G1=>ti τ G1 fun i G2=>t o i v G2 fun G3=>Q τ G3
def tAsg (te:TE3) (g:TG3):TS3:=fun D τ G=>te τ G fun x G1=>g x τ G1 D.nx
section
variable {X:Cx} {pos:Pos}
theorem jJq {i:Nat} {x:Str} (hN:X.N.Nodup) (hi:X.N[i]? =some x:=by rfl) (hx:Loc X.env.scope x:=by first | exact Or.inl rfl | exact Or.inr rfl) (hf:X.fn x=true\/X.env.scope.names.lookup x=some .local:=by first | exact .inl rfl | exact .inr rfl):PG3 X (.Name x pos) (jJd i):=by
 rintro pins s τ G H v u Q ⟨σ,I,hs,hg⟩ ⟨a,ra,rv⟩ h
 exact wpAny_assign_Name (jK0 I hN hi hx rv (fun s' I'=>⟨_,G,H,.refl H,⟨_,I',hs.set i ra,hg⟩,h⟩) hf)
theorem jQa:PGs3 X [] gNil:=by
 rintro pins s τ G H vs us Q I ⟨as,r,rv⟩ ⟨e,h⟩
 subst e
 cases (show as=[] from r)
 cases rv
 exact assignInOrder_nil ⟨τ,G,H,.refl H,I,h⟩
theorem jJv {e:Expr} {es:List Expr} {t:TG3} {u:TGs3} (h1:PG3 X e t) (h2:PGs3 X es u)
  (hs:(assignEach (e::es) X.env).map (·.2)=assign e X.env::(assignEach es X.env).map (·.2):=by rfl):PGs3 X (e::es) (jJu t u):=by
 rintro pins s τ G H vs us Q I ⟨as,r,rv⟩ ⟨v,vr,e1,h⟩
 subst e1
 obtain⟨a,ar,rfl,ra,rar⟩:=r
 cases rv with
 | cons q qq=>
  rw[hs]
  refine assignInOrder_cons (thn (h1 pins s τ G H v _ _ I ⟨a,ra,q⟩ h) fun _ s1 ⟨τ1,G1,H1,e1,I1,q1⟩=> ?_)
  exact thn (h2 pins s1 τ1 G1 H1 vr _ Q I1 ⟨ar,Reps.mono e1 _ rar,qq⟩ q1) fun _ s2 ⟨τ2,G2,H2,e2,z⟩=>⟨τ2,G2,H2,e1.trans e2,z⟩
theorem jU3 {es:List Expr} {k:Nat} {t:TGs3} {n:Nat} (hc:X.calm=true) (h:PGs3 X es t)
  (hn:(assignEach es X.env).length=n:=by rfl) (hst:(assignEach es X.env).findIdx? (·.1)=none:=by rfl):PG3 X (.Tuple es k pos) (gTup n t):=by
 rintro pins s τ G H v u Q ⟨σ,I,hs,hg⟩ ⟨a,ra,rv⟩ ⟨xs,ev,hl,hw⟩
 subst ev
 obtain⟨p,vs,e1,h1,r1⟩:=(show ∃p vs,a= .ref p/\H p=some (.tup vs)/\Reps X.K H xs vs from ra)
 subst e1
 cases rv
 obtain⟨its,rv,ht,hz⟩:=I.tuple (.of h1)
 refine assign_Tuple_tuple (I.ok.hd hc) ht (by simp[hn,<-hl,r1.length,rv.length]) hst fun h' hx=> ?_
 have I1:Inv X pins σ H {s with heap:=h'}:=I.kept (t':=s.toks) fun b o e=>hx b o (Nat.ne_of_lt (Heap.lt_size e)) e
 exact h pins _ τ G H xs _ Q ⟨σ,I1,hs,hg⟩ ⟨vs,r1,by simpa using rv⟩ hw
theorem jYm {o i:Expr} {to ti:TE3} {t:T->T->T->Gp->(Gp->Prop)->Prop} (ho:PE3 X o to) (hi:PE3 X i ti) (hs:Set3 X t)
  (ha:∀v,assign (.Subscript o i pos) X.env v=(do
   let ov <-holding [v] (eval o X.env)
   let iv <-holding [v,ov] (eval i X.env)
   standAt pos
   holding [v,ov,iv] (setItem ov iv v)
   release [v,ov,iv] []):=by intro _;rfl):PG3 X (.Subscript o i pos) (gSub to ti t):=by
 intro pins s τ G H v u Q I r h
 rw[ha]
 refine wpAny_bind (wpAny_holding (thn (ho pins s τ G H _ I h) fun ov s1 w_=>w_.el fun x G1 H1 e1 I1 r1 q1=> ?_))
 refine wpAny_bind (wpAny_holding (thn (hi pins s1 τ G1 H1 _ I1 q1) fun iv s2 w_=>w_.el fun y G2 H2 e2 I2 r2 q2=> ?_))
 refine wpAny_bind (wpAny_standAt (wpAny_bind (wpAny_holding (thn (hs pins s2 τ G2 H2 x y v ov iv u _ I2 (r1.mono e2) r2 (r.mono (e1.trans e2)) q2) fun _ s3 ⟨G3,H3,e3,I3,q3⟩=> ?_))))
 exact wpAny_release ⟨τ,G3,H3,(e1.trans e2).trans e3,I3,q3⟩
theorem jXg {tg e:Expr} {te:TE3} {g:TG3} (he:PE3 X e te) (hg:PG3 X tg g) (hs:swapsWithSole [tg] e pos.line X.env=pure false:=by rfl) (hw:swappedStores [tg] e X.env=pure none:=by rfl)
  (h1:(assignEach [tg] X.env).map (·.2)=[assign tg X.env]:=by rfl):PS3 X (.Assign [tg] e pos) (tAsg te g):=by
 intro pins s τ G H D I h
 refine wpAny_Assign_stores (thn (he pins s τ G H _ I h) fun v s1 w_=>w_.el fun x G1 H1 e1 I1 r1 q1=> ?_) hs hw
 rw[h1]
 exact thn (hg pins s1 τ G1 H1 x v _ I1 r1 q1) fun _ s2 ⟨τ2,G2,H2,e2,q⟩=>⟨τ2,G2,H2,e1.trans e2,q⟩
theorem jJw {i:Nat} {x:Str} {e:Expr} {te:TE3} {pos':Pos} (hN:X.N.Nodup) (he:PE3 X e te) (hi:X.N[i]? =some x:=by rfl) (hx:Loc X.env.scope x:=by first | exact Or.inl rfl | exact Or.inr rfl)
  (hs:swapsWith e (some (.Name x pos')) pos.line X.env=pure false:=by rfl) (hf:X.fn x=true\/X.env.scope.names.lookup x=some .local:=by first | exact .inl rfl | exact .inr rfl):
  PS3 X (.Assign [.Name x pos'] e pos) (tAsg te (jJd i)):=by
 intro pins s τ G H D I h
 refine wpAny_Assign_Name (thn (he pins s τ G H _ I h) fun v s1 w_=>w_.el fun y G1 H1 e1 i_ r_ q1=>i_.el fun σ I1 hs1 hg1=>r_.el fun a ra rv=> ?_) hs
 exact jK0 I1 hN hi hx rv (fun s2 I2=>⟨_,G1,H1,e1,⟨_,I2,hs1.set i ra,hg1⟩,q1⟩) hf
def tPar (i j:Nat) (ta:TA3):TS3:=fun D τ G=>ta τ G fun vs G1=>∃v w,vs=[v,w]/\D.nx ((τ.set i (some v)).set j (some w)) G1
theorem s_par {i j:Nat} {x y:Str} {a b:Expr} {ta:TA3} {px py pt:Pos} {kt k2 pt2} (hc:X.calm=true) (hN:X.N.Nodup) (hij:i≠j) (ha:PA3 X [a,b] ta) (hi:X.N[i]? =some x:=by rfl) (hj:X.N[j]? =some y:=by rfl)
  (hx:X.env.scope.names.lookup x=some .local:=by rfl) (hy:X.env.scope.names.lookup y=some .local:=by rfl)
  (hw:swappedStores [.Tuple [.Name x px,.Name y py] kt pt] (.Tuple [a,b] k2 pt2) X.env=pure (some [x,y]):=by rfl)
  (hs:swapsWithSole [.Tuple [.Name x px,.Name y py] kt pt] (.Tuple [a,b] k2 pt2) pos.line X.env=pure false:=by rfl):
  PS3 X (.Assign [.Tuple [.Name x px,.Name y py] kt pt] (.Tuple [a,b] k2 pt2) pos) (tPar i j ta):=by
 intro pins s τ G H D I h
 rw[exec_Assign_arm]
 refine wpAny_bind (wpAny_standAt ?_)
 rw[hs]
 refine wpAny_bind (wpAny_pure ?_)
 rw[if_neg (by decide)]
 refine wpAny_bind (Tuple_ (thn (ha _ pins s τ G H _ I h) fun us s1 w_=>w_.el fun vs G1 H1 e1 i_ r_ q1=>i_.el fun σ I1 hs1 hg1=>r_.el fun as ras rvs=> ?_))
 obtain⟨v,w,ev,q1⟩:=q1
 subst ev
 obtain⟨a1,a2,rfl,ra1,ra2⟩:=kKb ras
 obtain⟨u1,u2,rfl,rv,rw'⟩:=rvs.two
 refine wpAny_newObj_type ?_ (by show 2<=sizeLine;decide)
 have I2:Inv X pins σ H1 {s1 with heap:=s1.heap.push {cls:= .type "tuple",data:= .seq [u1,u2].toArray} }:=I1.kept (t':=s1.toks) fun b o e=>Heap.get?_push_of_some _ e
 rw[hw]
 refine wpAny_bind (wpAny_pure ?_)
 show wpAny (model X.prog X.w) X.A (do rule "assign.swapped-stores"; let items <-unpackItems (.ref s1.heap.objs.size) 2 none;assignInOrder [fun v=>bindName X.env y v,fun v=>bindName X.env x v] items.reverse;pure Flow.next) _ _ _
 refine wpAny_bind (wpAny_rule (wpAny_bind (unpackItems_tuple (items:= #[u1,u2]) (I1.ok.hd hc) (IsTup.new s1.heap _) fun h' hx'=> ?_)))
 have I3:=I2.kept (h':=h') (t':=s1.toks) fun b o e=>hx' b o (Nat.ne_of_lt (Heap.lt_size e)) e
 show wpAny _ _ (assignInOrder [fun v=>bindName X.env y v,fun v=>bindName X.env x v] [u2,u1] >>= fun _=>pure Flow.next) _ _ _
 refine wpAny_bind (assignInOrder_cons (wpAny_bindName (jK0 I3 hN hj (.inl hy) rw' (fun s2 I4=> ?_) (.inr hy))))
 refine assignInOrder_cons (wpAny_bindName (jK0 I4 hN hi (.inl hx) rv (fun s3 I5=>assignInOrder_nil (wpAny_pure ?_)) (.inr hx)))
 rw[List.set_comm _ _ (Ne.symm hij)] at I5
 exact⟨_,G1,H1,e1,⟨_,I5,(hs1.set i ra1).set j ra2,hg1⟩,q1⟩
noncomputable def jU8 (c:TT3) (tb:TS3):TS3:=fun D τ G=>∃W:Nat->St3->Gp->Prop,(∃m,W m τ G)/\∀m τ G,W m τ G->
 c τ G fun b G1=>if b=true then ∃N:St3->Gp->Prop,(∀ τ' G',N τ' G'->∃m',m'<m/\W m' τ' G')/\tb {D with nx:=N,ct:=N,bk:=D.nx} τ G1 else D.nx τ G1
theorem kK6 {c:Expr} {body:List Stmt} {tc:TT3} {tb:TS3} (hp:PassesOwn (model X.prog X.w) X.A X.env X.xe) (hc:PT3 X c tc) (hb:PSs3 X body tb):PS3 X (.While c body [] pos) (jU8 tc tb):=by
 intro pins s τ G H D I h
 obtain⟨W,⟨m0,w0⟩,turn⟩:=h
 refine wpAny_While (codeAny_whileLoop (fun n s'=>∃ τ' G' H',Ext H H'/\Inv3 X pins τ' G' H' s'/\W n τ' G') ?_ m0 ⟨τ,G,H,.refl H,I,w0⟩)
 rintro n s1 ⟨τ1,G1,H1,e1,I1,w1⟩
 refine wpAny_passesOwn hp (thn (hc pins s1 τ1 G1 H1 _ I1 (turn n τ1 G1 w1)) fun b s2 w_=>w_.el fun G2 H2 e2 I2 q2=> ?_)
 cases b with
 | true=>
  obtain⟨N,hN,q2⟩:=q2
  rw[if_pos rfl]
  refine wpAny_passesOwn hp (thn (hb pins s2 τ1 G2 H2 _ I2 q2) fun f s3 q3=> ?_)
  cases f with
  | next=>
   obtain⟨τ3,G3,H3,e3,I3,n3⟩:=q3
   obtain⟨m',hm,w3⟩:=hN τ3 G3 n3
   exact⟨m',hm,τ3,G3,H3,(e1.trans e2).trans e3,I3,w3⟩
  | cont=>
   obtain⟨τ3,G3,H3,e3,I3,n3⟩:=q3
   obtain⟨m',hm,w3⟩:=hN τ3 G3 n3
   exact⟨m',hm,τ3,G3,H3,(e1.trans e2).trans e3,I3,w3⟩
  | brk=>exact SP3.ext (f:= .next) (e1.trans e2) q3
  | ret v=>exact SP3.ext (f:= .ret v) (e1.trans e2) q3
 | false=>
  rw[if_neg Bool.false_ne_true]
  exact wpAny_execs_nil ⟨τ1,G2,H2,e1.trans e2,I2,q2⟩
end
noncomputable def Items (K:PySem.W.Frag) (H0:Hp) (J:It) (xs:List T) (stay:Gp->Prop):Prop:=
 ∀i H G,Ext H0 H->GRel K H G->stay G->(i<xs.length->J.go i H)/\(xs.length<=i->J.stop i H)/\(i<xs.length->∀x H',J.yld i H x H'->Ext H H'/\GRel K H' G/\∃t,xs[i]? =some t/\Rep K H' t x)
abbrev TI3:=St3->Gp->(List T->(Gp->Prop)->Gp->Prop)->Prop
noncomputable def PIE3 (X:Cx) (pins:List (Addr×Obj)) (τ:St3) (H:Hp) (tg:Expr) (R:List T->(Gp->Prop)->Gp->Prop) (itv:Value) (s2:Shared):Prop:=
 ∃(it:Addr) (fp:List Addr) (tn:Nat->Heap->Prop) (J:It) (xs:List T) (stay:Gp->Prop) (G':Gp) (H':Hp),itv= .ref it/\Ext H H'/\Inv3 X pins τ G' H' s2/\Turn X.prog X.w X.K tg J fp it tn/\tn 0 s2.heap/\(∀b∈fp,FpOk X pins H' b)/\
  Items X.K H' J xs stay/\R xs stay G'
noncomputable def PI3 (X:Cx) (tg iter:Expr) (wi:TI3):Prop:=
 ∀(pins:List (Addr×Obj)) (s:Shared) (τ:St3) (G:Gp) (H:Hp) (R:List T->(Gp->Prop)->Gp->Prop),Inv3 X pins τ G H s->wi τ G R->
  wpAny (model X.prog X.w) X.A (eval iter X.env) (fun v s1=>wpAny (model X.prog X.w) X.A (pyIter v) (PIE3 X pins τ H tg R) X.xe s1) X.xe s
noncomputable def tFor (wi:TI3) (g:TG3) (tb:TS3):TS3:=fun D τ G=>wi τ G fun xs stay G1=>∃P:Nat->St3->Gp->Prop,P 0 τ G1/\(∀i τ G,i<=xs.length->P i τ G->stay G)/\
 (∀i x τ G,xs[i]? =some x->P i τ G->g x τ G fun τ2 G2=>tb {D with nx:=P (i+1),ct:=P (i+1),bk:=D.nx} τ2 G2)/\∀ τ G,P xs.length τ G->D.nx τ G
section
variable {X:Cx} {tg:Expr} {pos:Pos}
theorem jQ3 {iter:Expr} {body:List Stmt} {wi:TI3} {g:TG3} {tb:TS3} (hp:PassesOwn (model X.prog X.w) X.A X.env X.xe) (hc:X.calm=true) (hi:PI3 X tg iter wi) (hg:PG3 X tg g) (hb:PSs3 X body tb)
  (hs:∀x,foldedSetIterable iter X.env x=pure x:=by intro _;rfl):PS3 X (.For tg iter body [] pos) (tFor wi g tb):=by
 intro pins s τ G H D I h
 refine wpAny_For (thn (hi pins s τ G H _ I h) fun v s1 h1=>thn h1 fun itv s2 h2=> ?_) hs
 obtain⟨it,fp,tn,J,xs,stay,G2,H2,e,eH,I2,T0,st2,f2,IT,P,p0,hstay,turn,fin⟩:=h2
 subst e
 have stat:∀ {H':Hp},(∀b∈fp,H' b=none)->∀b∈fp,FpOk X pins H' b:=fun hn b hb=>⟨hn b hb,(f2 b hb).2⟩
 refine codeAny_forLoop_any (fun n s'=>∃i τ' G' H',n=xs.length-i/\i<=xs.length/\Ext H2 H'/\Inv3 X pins τ' G' H' s'/\tn i s'.heap/\(∀b∈fp,H' b=none)/\P i τ' G') ?_ xs.length ⟨0,τ,G2,H2,rfl,Nat.zero_le _,.refl _,I2,st2,fun b hb=>(f2 b hb).1,p0⟩
 rintro n s3 ⟨i,τ3,G3,H3,en,hi3,e3,⟨σ3,I3,hs3,hg3⟩,st3,fr3,p3⟩
 obtain⟨go,stop,yl⟩:=IT i H3 G3 e3 hg3 (hstay i τ3 G3 hi3 p3)
 by_cases hlt:i<xs.length
 ·refine wpAny_passesOwn hp (thn (T0.item X rfl rfl rfl hc i pins s3 σ3 H3 X.xe I3 (stat fr3) st3 (go hlt)) fun r s4 ⟨u,hr,h4⟩=> ?_)
  subst hr
  refine wpAny_passesOwn hp (thn h4 fun _ s5 ⟨x,H5,I5,r5,y5,st5,fr5⟩=> ?_)
  obtain⟨e5,g5,t,ht,rt⟩:=yl hlt x H5 y5
  have I5':=I5.pinned (stat fr5) (T0.obj _ _ st5)
  refine wpAny_passesOwn hp (thn (hg _ s5 τ3 G3 H5 t u _ ⟨σ3,I5',hs3.mono e5,g5⟩ ⟨x,rt,r5⟩ (turn i t τ3 G3 ht p3)) fun _ s6 ⟨τ6,G6,H6,e6,I6,q6⟩=> ?_)
  refine wpAny_passesOwn hp (thn (hb _ s6 τ6 G6 H6 _ I6 q6) fun f s7 q7=> ?_)
  have e36:Ext H2 H6:=(e3.trans e5).trans e6
  have again:∀ {τ7:St3} {G7:Gp} {H7:Hp},Ext H6 H7->Inv3 X (pins++jKy fp s5.heap) τ7 G7 H7 s7->P (i+1) τ7 G7->
    ∃m,m<n/\∃i τ' G' H',m=xs.length-i/\i<=xs.length/\Ext H2 H'/\Inv3 X pins τ' G' H' s7/\tn i s7.heap/\(∀b∈fp,H' b=none)/\P i τ' G':=fun {τ7 G7 H7} e7 ⟨σ7,I7,hs7,hg7⟩ p7=>by
   refine⟨xs.length-(i+1),by omega,i+1,τ7,G7,H7,rfl,hlt,e36.trans e7,⟨σ7,I7.unpinned,hs7,hg7⟩,T0.keep _ _ _ st5 fun b hb o e=>(I7.pin (b,o) (List.mem_append_right _ (List.mem_append_right _ (jKs hb e)))).1,fun b hb=> ?_,p7⟩
   obtain⟨o,e,d⟩:=T0.obj _ _ st5 b hb
   exact (I7.pin (b,o) (List.mem_append_right _ (List.mem_append_right _ (jKs hb e)))).2.1
  have un:∀ {τ7:St3} {G7:Gp} {H7:Hp},Inv3 X (pins++jKy fp s5.heap) τ7 G7 H7 s7->Inv3 X pins τ7 G7 H7 s7:=fun ⟨σ7,I7,a,b⟩=>⟨σ7,I7.unpinned,a,b⟩
  cases f with
  | next=>obtain⟨τ7,G7,H7,e7,I7,n7⟩:=q7;exact again e7 I7 n7
  | cont=>obtain⟨τ7,G7,H7,e7,I7,n7⟩:=q7;exact again e7 I7 n7
  | brk=>obtain⟨τ7,G7,H7,e7,I7,q7⟩:=q7;exact⟨τ7,G7,H7,(eH.trans e36).trans e7,un I7,q7⟩
  | ret v=>obtain⟨x7,τ7,G7,H7,e7,I7,r7,q7⟩:=q7;exact⟨x7,τ7,G7,H7,(eH.trans e36).trans e7,un I7,r7,q7⟩
 ·have ei:i=xs.length:=by omega
  refine wpAny_passesOwn hp (thn (T0.done X rfl rfl rfl hc i pins s3 σ3 H3 X.xe I3 (stat fr3) st3 (stop (by omega))) fun r s4 ⟨hr,I4⟩=> ?_)
  subst hr;subst ei
  exact wpAny_execs_nil ⟨τ3,G3,H3,eH.trans e3,⟨σ3,I4,hs3,hg3⟩,fin τ3 G3 p3⟩
def iSeq (tl:TE3):TI3:=fun τ G R=>tl τ G fun x G1=>∃xs,seqT G1 x=some xs/\R xs (fun G'=>seqT G' x=some xs) G1
theorem jY9 {l:Expr} {tl:TE3} (hl:PE3 X l tl):PI3 X tg l (iSeq tl):=by
 intro pins s τ G H R I h
 refine thn (hl pins s τ G H _ I h) fun v s1 w_=>w_.el fun x G1 H1 e1 i_ r_ ⟨xs,hx,q⟩=>i_.el fun σ I1 hs1 hg1=>r_.el fun a ra rv=> ?_
 obtain⟨p,vs,e,hq,r⟩:=jQq hg1 ra hx
 subst e
 cases rv
 have fpk:∀b∈[s1.heap.objs.size],FpOk X pins H1 b:=fun b hb=>by
  have e:b=s1.heap.objs.size:=by simpa using hb
  subst e
  exact I1.fpOk (Nat.le_refl _) (I1.hok.fresh (Nat.le_refl _))
 rcases hq with hq | hq
 ·obtain⟨its,rv,pl,hz⟩:=I1.list hq
  refine wpAny_pyIter_list pl.isList ?_
  refine⟨s1.heap.objs.size,[s1.heap.objs.size],_,_,xs,fun G'=>seqT G' x=some xs,G1,H1,rfl,e1,⟨σ,I1.kept (t':=s1.toks) fun b o e=>Heap.get?_push_of_some _ e,hs1,hg1⟩,kKw p _,⟨_,Heap.get?_push_size _ rfl,rfl,rfl⟩,fpk,?_,q⟩
  intro i H2 G2 e2 g2 st
  have ra2:=Rep.mono e2 _ ra
  have now:∃ws,SqL X.K H2 p ws/\Reps X.K H2 xs ws:=by
   cases x with
   | scr ys=>cases hx;obtain⟨p',ws,ep,h1,h2⟩:=(show ∃p' ws,V.ref p= .ref p'/\FrL X.K H2 p' ws/\Reps X.K H2 xs ws from ra2);cases ep;exact⟨ws,h1.sq,h2⟩
   | ref p'=>cases (show V.ref p= .ref p' from ra);obtain⟨ws,h1,h2⟩:=g2.lst (jUm st);exact⟨ws,.of h1,h2⟩
   | tup ys=>
    obtain⟨p',ws,ep,h1,h2⟩:=(show ∃p' ws,V.ref p= .ref p'/\H1 p'=some (.tup ws)/\Reps X.K H1 ys ws from ra)
    cases ep
    exfalso
    obtain⟨its',_,pl',_⟩:=I1.tuple (.of h1)
    obtain⟨o,n,ho,hc,_⟩:=pl
    obtain⟨o',ho',hc',_⟩:=pl'
    rw[ho] at ho';cases ho'
    rw[hc] at hc';exact absurd hc' (by decide)
   | non=>cases hx
   | bl _=>cases hx
   | int _=>cases hx
   | str _=>cases hx
   | ty _=>cases hx
  obtain⟨ws,h1,h2⟩:=now
  have hlen:=h2.length
  refine⟨fun hi=> ?_,fun hi=>⟨ws,h1,by omega⟩,fun _ y H' ⟨eH,hy⟩=> ?_⟩
  ·exact⟨ws,ws[i]'(by omega),h1,by simp[hlen▸hi]⟩
  ·subst eH
   obtain⟨t,ht,rt⟩:=h2.get' (hy ws h1)
   exact⟨.refl _,g2,t,ht,rt⟩
 ·obtain⟨its,rv,pl,hz⟩:=I1.tuple hq
  refine wpAny_pyIter_tuple (show s1.heap.IsTuple p its.toArray from pl) ?_
  refine⟨s1.heap.objs.size,[s1.heap.objs.size],_,_,xs,fun G'=>seqT G' x=some xs,G1,H1,rfl,e1,⟨σ,I1.kept (t':=s1.toks) fun b o e=>Heap.get?_push_of_some _ e,hs1,hg1⟩,kJ8 p _,⟨_,Heap.get?_push_size _ rfl,rfl,rfl⟩,fpk,?_,q⟩
  intro i H2 G2 e2 g2 st
  have ra2:=Rep.mono e2 _ ra
  have now:∃ws,H2 p=some (.tup ws)/\Reps X.K H2 xs ws:=by
   cases x with
   | tup ys=>cases hx;obtain⟨p',ws,ep,h1,h2⟩:=(show ∃p' ws,V.ref p= .ref p'/\H2 p'=some (.tup ws)/\Reps X.K H2 xs ws from ra2);cases ep;exact⟨ws,h1,h2⟩
   | scr ys=>
    obtain⟨p',ws,ep,h1,h2⟩:=(show ∃p' ws,V.ref p= .ref p'/\FrL X.K H1 p' ws/\Reps X.K H1 ys ws from ra)
    cases ep
    exfalso
    obtain⟨its',_,pl',_⟩:=I1.list h1.sq
    obtain⟨o,n,ho,hc,_⟩:=pl'
    obtain⟨o',ho',hc',_⟩:=pl
    rw[ho] at ho';cases ho'
    rw[hc] at hc';exact absurd hc' (by decide)
   | ref p'=>
    cases (show V.ref p= .ref p' from ra)
    obtain⟨ws,h1,h2⟩:=hg1.lst (jUm hx)
    exfalso
    obtain⟨its',_,pl',_⟩:=I1.list (.of h1)
    obtain⟨o,n,ho,hc,_⟩:=pl'
    obtain⟨o',ho',hc',_⟩:=pl
    rw[ho] at ho';cases ho'
    rw[hc] at hc';exact absurd hc' (by decide)
   | non=>cases hx
   | bl _=>cases hx
   | int _=>cases hx
   | str _=>cases hx
   | ty _=>cases hx
  obtain⟨ws,h1,h2⟩:=now
  have hlen:=h2.length
  refine⟨fun hi=> ?_,fun hi=>⟨ws,.of h1,by omega⟩,fun _ y H' ⟨eH,hy⟩=> ?_⟩
  ·exact⟨ws,ws[i]'(by omega),.of h1,by simp[hlen▸hi]⟩
  ·subst eH
   obtain⟨t,ht,rt⟩:=h2.get' (hy ws (.of h1))
   exact⟨.refl _,g2,t,ht,rt⟩
def rngT (lo:Int) (n:Nat):List T:=(List.range n).map fun (k:Nat)=>T.int (lo+k)
def jKe (ta:TA3):TI3:=fun τ G R=>ta τ G fun vs G1=>∃j:Int,vs=[.int j]/\ -(2^62)<=j/\j<2^62/\R (rngT 0 j.toNat) (fun _=>True) G1
theorem kQz {K:PySem.W.Frag} {H:Hp} (lo:Int) (n:Nat):Items K H (Itr lo n) (rngT lo n) fun _=>True:=by
 intro i H' G e g _
 have hl:(rngT lo n).length=n:=by simp[rngT]
 refine⟨fun h=>by rw[hl] at h;exact h,fun h=>by rw[hl] at h;exact h,fun hi x H2 ⟨eH,ex⟩=> ?_⟩
 rw[hl] at hi
 subst eH;subst ex
 exact⟨.refl _,g,.int (lo+i),by simp[rngT,hi],rfl⟩
theorem jKp {a:Expr} {ta:TA3} {p:Pos} (hg:Gl X "range") (hm:X.mg "range"=none) (ha:PA3 X [a] ta) (hs:starEach [a] X.env=[(false,eval a X.env)]:=by rfl):PI3 X tg (.Call (.Name "range" p) [a] [] pos) (jKe ta):=by
 intro pins s τ G H R I h
 obtain⟨σ,I0,hs0,hg0⟩:=id I
 refine Call_ (jUf I0 hg hm boot_range (PyProof.Rows.callWith_type1 (thn (ha pos pins s τ G H _ I h) fun us s1 w_=>w_.el fun xs G1 H1 e1 i_ r_ q1=>i_.el fun σ I1 hs1 hg1=>r_.el fun as ras rvs=> ?_) hs rfl))
 obtain⟨j,e,q1,q2,q⟩:=q1
 subst e
 obtain⟨v,rfl,rv⟩:=jVg ras
 cases (show v= .int j from rv)
 obtain⟨u,rfl,ru⟩:=rvs.one
 obtain⟨t,rfl⟩:=ru
 refine call_range_1 (thn (kVi (tg:=tg) (R:=fun J H'=>J=Itr 0 j.toNat/\H'=H1) I1 (by omega) (by omega) q1 q2 ⟨by simp,rfl⟩) fun itv s2 z=> ?_)
 obtain⟨it,fp,tn,J,H',ei,I2,T0,st,fk,eJ,eH⟩:=z
 subst eJ;subst eH
 exact⟨it,fp,tn,_,rngT 0 j.toNat,fun _=>True,G1,H',ei,e1,⟨σ,I2,hs1,hg1⟩,T0,st,fk,kQz 0 j.toNat,q⟩
end
abbrev Sp3:=List T->Gp->VK3->Prop
def dn (K:PySem.W.Frag) (n:Nat) (sp:Sp3):Sp:=fun vs H Q _=>vs.length=n/\∃xs G,Reps K H xs vs/\GRel K H G/\sp xs G fun t G'=>∀v H',Ext H H'->GRel K H' G'->Rep K H' t v->Q v H'
noncomputable def Fn3 (P:Program) (w:World) (K:PySem.W.Frag) (mg:Str->Option Value) (base:Heap) (k:Nat) (f:Addr) (fd:FuncData) (ps:List Str) (sp:Sp3):Prop:=FnOk P w K mg base CX0 k f fd ps (dn K ps.length sp)
def jJz (sp:Sp3) (t:TA3):TE3:=fun τ G Q=>t τ G fun xs G1=>sp xs G1 Q
def Mono (sp:Sp3):Prop:=∀xs G Q Q',(∀t G',Q t G'->Q' t G')->sp xs G Q->sp xs G Q'
def jKu (N:List Str) (xs:List T):St3:=xs.map some++List.replicate (N.length-xs.length) none
theorem jYw {K:PySem.W.Frag} {H:Hp} {N:List Str} {xs:List T} {vs:List V} (r:Reps K H xs vs):SRel K H (start N vs) (jKu N xs):=by
 have hl:=r.length
 refine⟨by simp[L2.start,jKu,hl],fun i t h=> ?_⟩
 unfold jKu at h
 unfold L2.start
 by_cases hi:i<xs.length
 ·rw[List.getElem?_append_left (by simpa using hi),List.getElem?_map] at h
  cases e:xs[i]? with
  | none=>rw[e] at h;cases h
  | some x=>
   rw[e] at h;cases h
   obtain⟨v,hv,rv⟩:=r.get e
   exact⟨v,by rw[List.getElem?_append_left (by simp;omega),List.getElem?_map,hv];rfl,rv⟩
 ·rw[List.getElem?_append_right (by simpa using hi),List.getElem?_replicate] at h
  split at h<;>cases h
theorem fn3 {P:Program} {w:World} {K:PySem.W.Frag} {mg:Str->Option Value} {base:Heap} {x qual:Str} {st:Stmt} {f:Addr} {fd:FuncData} {N ps:List Str} {k:Nat} {sp:Sp3} (F:Fun K x qual st f fd) (S:FnScope N ps (jJk st))
  (hbody:∀(cdv:Value) (A:Around) (outer:List Env) (s:Shared) (H:Hp) (E:XK),Room k (A.deeper (envOfC qual (jJk st) s.heap.objs.size f cdv))->
   ∃t,PSs3 (cxOf CX0 P w K mg base N qual (jJk st) f cdv A outer s H E).nox (jKg st) t/\∀xs G Q,sp xs G Q->t {nx:=fun _ G'=>Q .non G',rt:=Q} (jKu N xs) G):Fn3 P w K mg base (k+1) f fd ps sp:=by
 refine Fun.ok (sp:=dn K ps.length sp) F S (fun vs H Q E h=>h.1) fun cdv A outer s H vs Q E hr hsp=> ?_
 obtain⟨t,ht,hq⟩:=hbody cdv A outer s H E hr
 obtain⟨hl,xs,G,rs,hg,hsp⟩:=hsp
 refine⟨fun D σ H1=>D.nx=(fun _ H'=>Q .non H')/\D.rt=Q/\σ=L2.start N vs/\H1=H,?_,rfl,rfl,rfl,rfl⟩
 rintro pins s1 σ1 H1 D I ⟨e1,e2,e3,e4⟩
 subst e3;subst e4
 have I3:Inv3 (cxOf CX0 P w K mg base N qual (jJk st) f cdv A outer s H1 E).nox pins (jKu N xs) G H1 s1:=⟨_,I,jYw rs,hg⟩
 refine thn (ht pins s1 _ G H1 _ I3 (hq xs G _ hsp)) fun fl s2 z=> ?_
 cases fl with
 | next=>obtain⟨τ',G',H',e',⟨σ',I',a,b⟩,q⟩:=z;exact⟨σ',H',I',by rw[e1];exact q .non H' e' b rfl⟩
 | brk=>obtain⟨τ',G',H',e',_,q⟩:=z;exact q.elim
 | cont=>obtain⟨τ',G',H',e',_,q⟩:=z;exact q.elim
 | ret u=>obtain⟨x',τ',G',H',e',⟨σ',I',a,b⟩,⟨v,rv,ru⟩,q⟩:=z;exact⟨v,σ',H',I',ru,by rw[e2];exact q v H' e' b rv⟩
mutual
noncomputable def dep:T->Nat
 | .tup xs=>deps xs+1
 | _=>0
noncomputable def deps:List T->Nat
 | []=>0
 | x::xs=>max (dep x) (deps xs)
end
mutual
noncomputable def tree:T->Bool
 | .tup xs=>jKj xs
 | .ref _=>false
 | .scr _=>false
 | .ty _=>false
 | .non=>true
 | .bl _=>true
 | .int _=>true
 | .str _=>true
noncomputable def jKj:List T->Bool
 | []=>true
 | x::xs=>tree x&&jKj xs
end
mutual
noncomputable def eqT:T->T->Bool
 | .non,.non=>true
 | .bl a,.bl b=>a == b
 | .bl a,.int b=>(if a then 1 else 0) == b
 | .int a,.bl b=>a == (if b then 1 else 0)
 | .int a,.int b=>a == b
 | .str a,.str b=>a == b
 | .tup xs,.tup ys=>eqTs xs ys
 | _,_=>false
noncomputable def eqTs:List T->List T->Bool
 | [],[]=>true
 | x::xs,y::ys=>eqT x y&&eqTs xs ys
 | [],_::_=>false
 | _::_,[]=>false
end
mutual
theorem kXb {K:PySem.W.Frag} {H:Hp}:∀(x y:T) {a:V},tree x=true->tree y=true->Rep K H x a->Rep K H y a->eqT x y=true
 | .non,y,a,hx,hy,r,q=>by
  cases (show a= .non from r)
  cases y<;>first | rfl | (exact absurd (show false=true from hy) Bool.false_ne_true) | (cases (show V.non=_ from q)) | (obtain⟨_,_,e,_⟩:=(show ∃c vs,V.non= .ref c/\_ from q);cases e)
 | .bl b,y,a,hx,hy,r,q=>by
  cases (show a= .bl b from r)
  cases y with
  | bl c=>cases (show V.bl b=V.bl c from q);simp[eqT]
  | tup ys=>obtain⟨_,_,e,_⟩:=(show ∃c vs,V.bl b= .ref c/\_ from q);cases e
  | non=>cases (show V.bl b= .non from q)
  | int c=>cases (show V.bl b= .int c from q)
  | str c=>cases (show V.bl b= .str c from q)
  | _=>exact absurd (show false=true from hy) Bool.false_ne_true
 | .int b,y,a,hx,hy,r,q=>by
  cases (show a= .int b from r)
  cases y with
  | int c=>cases (show V.int b=V.int c from q);simp[eqT]
  | tup ys=>obtain⟨_,_,e,_⟩:=(show ∃c vs,V.int b= .ref c/\_ from q);cases e
  | non=>cases (show V.int b= .non from q)
  | bl c=>cases (show V.int b= .bl c from q)
  | str c=>cases (show V.int b= .str c from q)
  | _=>exact absurd (show false=true from hy) Bool.false_ne_true
 | .str b,y,a,hx,hy,r,q=>by
  cases (show a= .str b from r)
  cases y with
  | str c=>cases (show V.str b=V.str c from q);simp[eqT]
  | tup ys=>obtain⟨_,_,e,_⟩:=(show ∃c vs,V.str b= .ref c/\_ from q);cases e
  | non=>cases (show V.str b= .non from q)
  | bl c=>cases (show V.str b= .bl c from q)
  | int c=>cases (show V.str b= .int c from q)
  | _=>exact absurd (show false=true from hy) Bool.false_ne_true
 | .tup xs,y,a,hx,hy,r,q=>by
  obtain⟨p,vs,e,h1,h2⟩:=(show ∃p vs,a= .ref p/\H p=some (.tup vs)/\Reps K H xs vs from r)
  subst e
  cases y with
  | tup ys=>
   obtain⟨p',vs',e',h1',h2'⟩:=(show ∃p' vs',V.ref p= .ref p'/\H p'=some (.tup vs')/\Reps K H ys vs' from q)
   cases e'
   rw[h1] at h1';cases h1'
   exact jZb xs ys (show jKj xs=true from hx) (show jKj ys=true from hy) h2 h2'
  | non=>cases (show V.ref p= .non from q)
  | bl c=>cases (show V.ref p= .bl c from q)
  | int c=>cases (show V.ref p= .int c from q)
  | str c=>cases (show V.ref p= .str c from q)
  | _=>exact absurd (show false=true from hy) Bool.false_ne_true
 | .ref _,_,_,hx,_,_,_=>absurd (show false=true from hx) Bool.false_ne_true
 | .scr _,_,_,hx,_,_,_=>absurd (show false=true from hx) Bool.false_ne_true
 | .ty _,_,_,hx,_,_,_=>absurd (show false=true from hx) Bool.false_ne_true
theorem jZb {K:PySem.W.Frag} {H:Hp}:∀(xs ys:List T) {vs:List V},jKj xs=true->jKj ys=true->Reps K H xs vs->Reps K H ys vs->eqTs xs ys=true
 | [],ys,_,_,_,r,q=>by
  cases r
  cases ys with
  | nil=>rfl
  | cons y ys=>obtain⟨_,_,e,_⟩:=q;cases e
 | x::xs,ys,_,hx,hy,⟨v,ws,e,r1,r2⟩,q=>by
  subst e
  cases ys with
  | nil=>cases q
  | cons y ys=>
   obtain⟨v',ws',e',q1,q2⟩:=q
   cases e'
   have hx':tree x=true/\jKj xs=true:=by simpa[jKj] using hx
   have hy':tree y=true/\jKj ys=true:=by simpa[jKj] using hy
   show (eqT x y&&eqTs xs ys)=true
   rw[kXb x y hx'.1 hy'.1 r1 q1,jZb xs ys hx'.2 hy'.2 r2 q2]
   rfl
end
section
variable {X:Cx}
def rSub:R3:=rI0 fun i j=> .int (i-j)
def rMod:R3:=rI (fun _ j=>0<j) fun i j=> .int (i%j)
def kYi:R3:=rI CDiv fun i j=> .int (i / j)
def rPow:R3:=rI CPow fun i j=> .int (i^j.toNat)
def rLt:R3:=rI0 fun i j=> .bl (decide (i<j))
def rGt:R3:=rI0 fun i j=> .bl (decide (j<i))
def rGe:R3:=rI0 fun i j=> .bl (decide (j<=i))
def rIsN:R3:=fun x y G Q=>y= .non/\Q (.bl (jU1 x)) G
def rNotN:R3:=fun x y G Q=>y= .non/\Q (.bl (!jU1 x)) G
def kVl:R3:=fun x y G Q=>∃xs ys,x= .tup xs/\y= .tup ys/\xs≠[]/\xs.length+ys.length<=sizeLine/\Q (.tup (xs++ys)) G
theorem o_catT:Op3 X (binaryOp .Add) kVl:=
 Op3.of kYo fun H G x y a b Q hg ra rb ⟨xs,ys,ex,ey,hx,hz,q⟩=>by
  subst ex;subst ey
  obtain⟨p,vs,e1,h1,h2⟩:=(show ∃p vs,a= .ref p/\H p=some (.tup vs)/\Reps X.K H xs vs from ra)
  obtain⟨p',ws,e2,h3,h4⟩:=(show ∃p vs,b= .ref p/\H p=some (.tup vs)/\Reps X.K H ys vs from rb)
  subst e1;subst e2
  have l1:=h2.length
  have l2:=h4.length
  refine⟨p,p',vs,ws,rfl,rfl,.of h1,.of h3,fun z=>hx ?_,by omega,fun z=> ?_,fun z l hl=> ?_⟩
  ·rw[z] at l1;exact List.length_eq_zero_iff.mp l1
  ·rw[z] at l2
   have:ys=[]:=List.length_eq_zero_iff.mp l2
   subst this
   exact⟨.tup (xs++[]),G,.refl H,hg,by rw[List.append_nil];exact ra,q⟩
  ·exact⟨.tup (xs++ys),G,.upd (.none hl),hg.tupNew hl,Rep.tupNew (h2.append h4) hl,q⟩
def rAddI:R3:=rI0 fun i j=> .int (i+j)
def rAddA:R3:=fun x y G Q=>rAddI x y G Q\/rCat x y G Q\/kVl x y G Q
theorem o_addA:Op3 X (binaryOp .Add) rAddA:=o_add.or (o_cat.or o_catT)
def rMulI:R3:=rI CMul fun i j=> .int (i*j)
def rMulA:R3:=fun x y G Q=>rMulI x y G Q\/rRep x y G Q
theorem o_mulA:Op3 X (binaryOp .Mult) rMulA:=o_mul.or o_rep
def rNeg:T->Gp->VK3->Prop:=fun x G Q=>∃i,x= .int i/\Q (.int (-i)) G
theorem jJl (b:Expr) {op:CmpOp} (h:behindInMarks op b=false:=by first | exact nomark _ | with_unfolding_all rfl):behindInMarks op b=false:=h
variable {a b c:Expr} {ta tb tc:TE3} {pos:Pos}
mutual
noncomputable def td:T->PyData
 | .tup xs=> .tuple (tds xs)
 | .int i=> .int i
 | .bl b=> .bool b
 | .str x=> .str x
 | .non=> .none
 | .ref _=> .none
 | .scr _=> .none
 | .ty _=> .none
noncomputable def tds:List T->List PyData
 | []=>[]
 | x::xs=>td x::tds xs
end
def eqOk (x:T):Bool:=tree x&&(td x).canLay0&&decide ((td x).depth<=50)
def jXn (xs:List T):Bool:=jKj xs&&PyData.canLayAll0 (tds xs)&&decide ((PyData.list (tds xs)).depth<=50)
noncomputable def eqG (G:Gp) (x y:T):Option Bool:=match x,y with
 | .ref p,.ref q=>match G p,G q with
  | some (.lst xs),some (.lst ys)=>if jXn xs=true/\jXn ys=true then some (eqTs xs ys) else none
  | _,_=>none
 | _,_=>if eqOk x=true/\eqOk y=true then some (eqT x y) else none
def rEqA:R3:=fun x y G Q=>∃b,eqG G x y=some b/\Q (.bl b) G
def rNeA:R3:=fun x y G Q=>∃b,eqG G x y=some b/\Q (.bl (!b)) G
noncomputable def truT (G:Gp):T->Option Bool
 | .non=>some false
 | .bl b=>some b
 | .int i=>some (i != 0)
 | .tup xs=>some (!xs.isEmpty)
 | .ref p=>match G p with
  | some (.lst xs)=>some (!xs.isEmpty)
  | some (.dck kvs)=>some (!kvs.isEmpty)
  | _=>none
 | _=>none
def rTru:T->Gp->(Bool->Gp->Prop)->Prop:=fun x G Q=>∃b,truT G x=some b/\Q b G
theorem jVe {K:PySem.W.Frag} {H:Hp} {xs:List T} {vs:List V} (r:Reps K H xs vs):xs.isEmpty=vs.isEmpty:=by
 have:=r.length
 cases xs<;>cases vs<;>simp_all
theorem kKy:Tru3 X rTru:=
 Tru3.of tru_ok fun H G x a Q hg ra ⟨b,hb,q⟩=>by
  refine⟨b,?_,rfl,q⟩
  cases x with
  | non=>cases (show a= .non from ra);cases hb;rfl
  | bl k=>cases (show a= .bl k from ra);cases hb;rfl
  | int k=>cases (show a= .int k from ra);cases hb;rfl
  | tup xs=>
   obtain⟨p,vs,e1,h1,h2⟩:=(show ∃p vs,a= .ref p/\H p=some (.tup vs)/\Reps X.K H xs vs from ra)
   subst e1;cases hb
   exact .inr (.inl ⟨vs,.of h1,by rw[jVe h2]⟩)
  | ref p=>
   cases (show a= .ref p from ra)
   cases hG:G p with
   | none=>simp only[truT,hG] at hb;cases hb
   | some o=>
    simp only[truT,hG] at hb
    cases o with
    | lst xs=>cases hb;obtain⟨vs,h1,h2⟩:=hg.lst hG;exact .inl ⟨vs,.of h1,by rw[jVe h2]⟩
    | dct _=>cases hb
    | fdc _=>cases hb
    | ins _ _=>cases hb
    | exc _=>cases hb
    | dck kvs=>
     cases hb
     obtain⟨ws,h1,h2⟩:=hg p _ hG
     refine .inr (.inr ⟨ws,h1,?_⟩)
     cases h2<;>rfl
  | str _=>cases hb
  | scr _=>cases hb
  | ty _=>cases hb
end
section
variable {X:Cx} {pins:List (Addr×Obj)} {σ:L2.St} {H:Hp} {s:Shared} {h':Heap}
theorem jZt {t':Nat} {fp:List Addr} (I:Inv X pins σ H s) (k:∀b o,b∉fp->s.heap.get? b=some o->h'.get? b=some o) (hf:∀b∈fp,FpOk X pins H b):Inv X pins σ H {s with heap:=h',toks:=t'}:=by
 have nit:∀b u,H b=some u->b∉fp:=fun b u e z=>by rw[(hf b z).1] at e;cases e
 refine I.step (g':=s.gens) (d':=s.drawn) (ch:=fp) (fun b hb=>⟨(hf b hb).2.2.2.1,(hf b hb).2.1,(hf b hb).2.2.2.2.1,(hf b hb).2.2.2.2.2⟩) (fun b o _ _ hc e _=>k b o hc e) (fun b o _ _ hc e _=>⟨o.slots,k b o hc e⟩) (fun _ _ _ _ n=>n)
  (fun b o hc e=>⟨o,k b o hc e⟩) (fun _ _ e=>e) (fun _ _ _ e=>e) (fun b ps e=>⟨#[],by rw[e];simp⟩) (fun m hm=> ?_) (fun b u e=> ?_) I.bare
 ·obtain⟨o,es,ep,ho,r⟩:=hm
  exact⟨o,es,ep,k _ o (fun z=>(hf _ z).2.1 rfl) ho,r⟩
 ·refine (I.hok b u e).stay (fun c v hc q=>k c v ?_ q) (fun _ q=>q) fun _ _ q=>q
  rcases hc with z | z
  ·rw[z];exact nit b u e
  ·exact nit c _ z
theorem jVw {t':Nat} {fp:List Addr} {p:Addr} {vs:List V} {us:List Value} (I:Inv X pins σ H s) (k:∀b o,b∉fp->s.heap.get? b=some o->h'.get? b=some o) (hf:∀b∈fp,FpOk X pins H b)
  (hp:s.heap.objs.size<=p) (ht:TupD h' p us.toArray) (r:Vals vs us) (hz:vs.length<=sizeLine):Inv X pins σ (upd H p (.tup vs)) {s with heap:=h',toks:=t'}:=by
 have hn:H p=none:=I.hok.fresh hp
 have nit:∀b u,H b=some u->b∉fp:=fun b u e z=>by rw[(hf b z).1] at e;cases e
 have old:∀b o,s.heap.get? b=some o->b≠p:=fun b o e=>Nat.ne_of_lt (Nat.lt_of_lt_of_le (Heap.lt_size e) hp)
 have tr:∀b u,H b=some u->b≠p:=fun b u e z=>by rw[z,hn] at e;cases e
 refine I.step (g':=s.gens) (d':=s.drawn) (ch:=fp) (fun b hb=>⟨(hf b hb).2.2.2.1,(hf b hb).2.1,(hf b hb).2.2.2.2.1,(hf b hb).2.2.2.2.2⟩) (fun b o _ _ hc e _=>k b o hc e) (fun b o _ _ hc e _=>⟨o.slots,k b o hc e⟩) (fun b o _ e n=>by rw[jJr (old b o e)];exact n)
  (fun b o hc e=>⟨o,k b o hc e⟩) (fun b _ e=>by rw[jJr (tr b _ e)];exact e) (fun b _ _ e=>by rw[jJr (tr b _ e)];exact e) (fun b ps e=>⟨#[],by rw[jJr (tr b _ e),e];simp⟩) (fun m hm=> ?_) (fun b u e=> ?_) I.bare
 ·obtain⟨o,es,ep,ho,r⟩:=hm
  exact⟨o,es,ep,k _ o (fun z=>(hf _ z).2.1 rfl) ho,r⟩
 ·by_cases hb:b=p
  ·subst hb
   rw[jJ1] at e
   cases e
   exact⟨hz,us,r,ht⟩
  ·rw[jJr hb] at e
   refine (I.hok b u e).stay (fun c v hc q=>k c v ?_ q) (fun c q=>by rw[jJr (tr c _ q)];exact q) fun c _ q=>by rw[jJr (tr c _ q)];exact q
   rcases hc with z | z
   ·rw[z];exact nit b u e
   ·exact nit c _ z
end
noncomputable def Ite (K:PySem.W.Frag) (a:Addr):It:=
 ⟨fun i H=>∃xs x,SqL K H a xs/\xs[i]? =some x,fun i H x H'=>∃p y,H p=none/\x= .ref p/\(∀xs,SqL K H a xs->xs[i]? =some y)/\H'=upd H p (.tup [.int i,y]),fun i H=>∃xs,SqL K H a xs/\xs.length<=i⟩
theorem kKx {P:Program} {w:World} {K:PySem.W.Frag} {elts:List Expr} {k:Nat} {pos:Pos} (a e it:Addr) (hei:e≠it):
  Turn P w K (.Tuple elts k pos) (Ite K a) [e,it] e (fun i h=>(∃old,IsEnum h e it i old)/\h.IsListIter it a i) where
 mem:=by simp
 obj:=fun i h ⟨⟨old,h1⟩,h2⟩ b hb=>by
  have hb':b=e\/b=it:=by simpa using hb
  rcases hb' with z | z
  ·subst z;exact⟨_,h1,fun v z=>nomatch (show Data.fields _=Data.cell v from z)⟩
  ·subst z
   obtain⟨o,e2,c,d⟩:=h2
   exact⟨o,e2,fun v z=>by rw[d] at z;cases z⟩
 keep:=fun i h h' ⟨⟨old,h1⟩,h2⟩ kp=>⟨⟨old,kp e (by simp) _ h1⟩,h2.at fun o q=>kp it (by simp) o q⟩
 item:=by
  rintro X hP hw hK hc i pins s σ H E I hf ⟨⟨old,he⟩,hit⟩ hg
  subst hP hw hK
  obtain⟨xs,x,hq,hx⟩:=hg
  obtain⟨its,rv,p,hz⟩:=I.list hq
  obtain⟨u,hu,ru⟩:=rv.get hx
  refine wpAny_pyNext_enum_item he hit p.isList (x:=u) (by simpa using hu) hei fun h1 ho hit1 hT hsz hk=> ?_
  refine⟨_,rfl,wpAny_letOwnedTupleGo_enum ho fun h2 he2 hs2=> ?_⟩
  have hel:e<s.heap.objs.size:=Heap.lt_size he
  have hp2:∀b o,b∉[e,it]->s.heap.get? b=some o->h2.get? b=some o:=fun b o hb q=>by
   have hb1:b≠e:=fun z=>hb (by simp[z])
   have hb2:b≠it:=fun z=>hb (by simp[z])
   exact (hs2.2 b hb1).trans (hk b o hb1 hb2 q)
  have hT2:h2.get? s.heap.objs.size=some {cls:= .type "tuple",data:= .seq #[.int i s.toks,u]}:=(hs2.2 _ (Nat.ne_of_gt hel)).trans hT
  have I2:=jVw (t':=s.toks+1) (h':=h2) (p:=s.heap.objs.size) (vs:=[.int i,x]) (us:=[.int i s.toks,u]) I hp2 hf (Nat.le_refl _) ⟨_,hT2,rfl,_,rfl,rfl⟩ (.cons ⟨_,rfl⟩ (.cons ru .nil)) (by show 2<=sizeLine;decide)
  refine⟨.ref s.heap.objs.size,_,I2,rfl,⟨_,x,I.hok.fresh (Nat.le_refl _),rfl,fun ys hy=>by rw[I.list_inj hy hq];exact hx,rfl⟩,⟨⟨u,by simpa using he2⟩,hit1.at fun o q=>(hs2.2 it hei.symm).trans q⟩,fun b hb=> ?_⟩
  have hbs:∃o,s.heap.get? b=some o:=by
   have hb':b=e\/b=it:=by simpa using hb
   rcases hb' with z | z
   ·subst z;exact⟨_,he⟩
   ·subst z;obtain⟨o,q,_⟩:=hit;exact⟨o,q⟩
  obtain⟨o,q⟩:=hbs
  rw[jJr (Nat.ne_of_lt (Heap.lt_size q))]
  exact (hf b hb).1
 done:=by
  rintro X hP hw hK hc i pins s σ H E I hf ⟨⟨old,he⟩,hit⟩ hg
  subst hP hw hK
  obtain⟨xs,hq,hx⟩:=hg
  obtain⟨its,rv,p,hz⟩:=I.list hq
  have hl:=rv.length
  exact wpAny_pyNext_enum_end (I.ok.hd hc) he hit p.isList (by simp;omega) fun h1 hx1=>⟨rfl,jZt (t':=s.toks) I (fun b o hb q=>hx1 b o (fun z=>hb (by simp[z])) q) hf⟩
 self:=fun _ _ _ _ _ ⟨⟨old,he⟩,_⟩ h=>wpAny_pyIter_enum he h
def numT (xs:List T):List T:=(List.range xs.length).map fun (i:Nat)=>T.tup [.int i,xs.getD i .non]
theorem jYh {xs:List T} {i:Nat} {x:T} (h:xs[i]? =some x):(numT xs)[i]? =some (.tup [.int i,x]):=by
 have hi:i<xs.length:=by
  rcases Nat.lt_or_ge i xs.length with z | z
  ·exact z
  ·rw[List.getElem?_eq_none z] at h;cases h
 have hx:xs[i]=x:=(List.getElem?_eq_some_iff.mp h).2
 simp[numT,hi,List.getD,hx]
theorem jKd {xs:List T}:(numT xs).length=xs.length:=by simp[numT]
def jXk (G:Gp):T->Option (List T)
 | .ref p=>asL (G p)
 | .scr xs=>some xs
 | _=>none
theorem jVq {K:PySem.W.Frag} {H:Hp} {G:Gp} {x:T} {a:V} {xs:List T} (hg:GRel K H G) (r:Rep K H x a) (h:jXk G x=some xs):∃p vs,a= .ref p/\SqL K H p vs/\Reps K H xs vs:=by
 cases x with
 | scr ys=>cases h;obtain⟨p,vs,e,h1,h2⟩:=(show ∃p vs,a= .ref p/\FrL K H p vs/\Reps K H xs vs from r);exact⟨p,vs,e,h1.sq,h2⟩
 | ref p=>
  obtain⟨vs,h1,h2⟩:=hg.lst (jUm h)
  exact⟨p,vs,r,.of h1,h2⟩
 | tup _=>cases h
 | non=>cases h
 | bl _=>cases h
 | int _=>cases h
 | str _=>cases h
 | ty _=>cases h
def kQ2 (ta:TA3):TI3:=fun τ G R=>ta τ G fun vs G1=>∃x xs,vs=[x]/\jXk G1 x=some xs/\R (numT xs) (fun G'=>jXk G' x=some xs) G1
theorem i_enum {X:Cx} {elts:List Expr} {k:Nat} {tpos pos p:Pos} {a:Expr} {ta:TA3} (hg:Gl X "enumerate") (hm:X.mg "enumerate"=none) (hv:bootBuiltins "enumerate"=some (.type "enumerate")) (ha:PA3 X [a] ta) (hs:starEach [a] X.env=[(false,eval a X.env)]:=by rfl):
  PI3 X (.Tuple elts k tpos) (.Call (.Name "enumerate" p) [a] [] pos) (kQ2 ta):=by
 intro pins s τ G H R I h
 obtain⟨σ0,I0,hs0,hg0⟩:=id I
 refine Call_ (jUf I0 hg hm hv (PyProof.Rows.callWith_type1 (thn (ha pos pins s τ G H _ I h) fun us s1 w_=>w_.el fun xs' G1 H1 e1 i_ r_ q1=>i_.el fun σ I1 hs1 hg1=>r_.el fun as ras rvs=> ?_) hs rfl))
 obtain⟨x,xs,e,hx,q⟩:=q1
 subst e
 obtain⟨v,rfl,rv⟩:=jVg ras
 obtain⟨u,rfl,ru⟩:=rvs.one
 obtain⟨pa,vs,rfl,hq,r⟩:=jVq hg1 rv hx
 cases ru
 obtain⟨its,rvv,pl,hz⟩:=I1.list hq
 refine call_enumerate_list pl.isList fun h1 he hit hsz hk=> ?_
 have I2:Inv X pins σ H1 {s1 with heap:=h1}:=I1.kept (t':=s1.toks) hk
 refine wpAny_pyIter_enum (Q:=PIE3 X pins τ H (.Tuple elts k tpos) R) he ?_
 have fr:∀b∈[s1.heap.objs.size+1,s1.heap.objs.size],FpOk X pins H1 b:=fun b hb=>by
  have hb':b=s1.heap.objs.size+1\/b=s1.heap.objs.size:=by simpa using hb
  have hle:s1.heap.objs.size<=b:=by omega
  exact I1.fpOk hle (I1.hok.fresh hle)
 refine⟨s1.heap.objs.size+1,[s1.heap.objs.size+1,s1.heap.objs.size],_,_,numT xs,fun G'=>jXk G' x=some xs,G1,H1,rfl,e1,⟨σ,I2,hs1,hg1⟩,kKx pa _ _ (Nat.succ_ne_self _),⟨⟨.none,he⟩,hit⟩,fr,?_,q⟩
 intro i H2 G2 e2 g2 st
 obtain⟨pb,ws,eb,h1,h2⟩:=jVq g2 (Rep.mono e2 _ rv) st
 cases eb
 have hlen:=h2.length
 refine⟨fun hi=> ?_,fun hi=>⟨ws,h1,by rw[jKd] at hi;omega⟩,fun hi y H' ⟨pp,z,hn,ey,hy,eH⟩=> ?_⟩
 ·rw[jKd] at hi
  exact⟨ws,ws[i]'(by omega),h1,by simp[hlen▸hi]⟩
 ·subst ey;subst eH
  obtain⟨t,ht,rt⟩:=h2.get' (hy ws h1)
  exact⟨.upd (.none hn),g2.tupNew hn,_,jYh ht,Rep.tupNew ⟨_,_,rfl,rfl,_,_,rfl,rt,rfl⟩ hn⟩
noncomputable def clGo (env:Env):List (Str×NameKind)->List (Str×Addr)->Option (List (Str×Addr))
 | [],cs=>some cs
 | (n,k)::r,cs=>if (k == .free)=true then (match env.cells.lookup n with | some c=>clGo env r ((n,c)::cs) | none=>none) else clGo env r cs
theorem jU7 {scope:Scope} {env:Env} {cl:List (Str×Addr)} (h:clGo env scope.names []=some cl):closureFor scope env=pure cl:=by
 unfold closureFor
 have go:∀(names:List (Str×NameKind)) (cs:List (Str×Addr)),clGo env names cs=some cl->
   (forIn names cs fun (x:Str×NameKind) (r:List (Str×Addr))=>(match x with | (nm,kd)=>if (kd == .free)=true then cellOf env nm >>= fun a=>pure (ForInStep.yield ((nm,a)::r)) else pure (ForInStep.yield r):Sem (ForInStep (List (Str×Addr)))))=pure cl:=by
  intro names
  induction names with
  | nil=>intro cs e;cases e;rfl
  | cons x r ih=>
   obtain⟨n,k⟩:=x
   intro cs e
   unfold clGo at e
   rw[List.forIn_cons]
   by_cases hk:(k == NameKind.free)=true
   ·rw[if_pos hk] at e
    cases hc:env.cells.lookup n with
    | none=>rw[hc] at e;cases e
    | some c=>
     rw[hc] at e
     have hco:cellOf env n=pure c:=by unfold cellOf;rw[hc]
     simp only[hk,if_true,hco,pure_bind]
     exact ih _ e
   ·rw[if_neg hk] at e
    simp only[hk,pure_bind,if_false,Bool.false_eq_true]
    exact ih _ e
 have:=go scope.names [] h
 simpa using this
theorem jQ0 {env:Env} {cl:List (Str×Addr)}:∀ {names:List (Str×NameKind)} {cs:List (Str×Addr)},clGo env names cs=some cl->(∀n c,cs.lookup n=some c->env.cells.lookup n=some c)->∀n c,cl.lookup n=some c->env.cells.lookup n=some c
 | [],cs,e,h=>by cases e;exact h
 | (n,k)::r,cs,e,h=>by
  unfold clGo at e
  by_cases hk:(k == NameKind.free)=true
  ·rw[if_pos hk] at e
   cases hc:env.cells.lookup n with
   | none=>rw[hc] at e;cases e
   | some c=>
    rw[hc] at e
    refine jQ0 e fun m d q=> ?_
    rw[List.lookup_cons] at q
    by_cases hm:(m == n)=true
    ·rw[hm] at q;cases q;rw[eq_of_beq hm];exact hc
    ·simp only[hm] at q;exact h m d q
  ·rw[if_neg hk] at e
   exact jQ0 e h
theorem jXb {env:Env} {cl:List (Str×Addr)} {m:Str}:∀ {names:List (Str×NameKind)} {cs:List (Str×Addr)},clGo env names cs=some cl->(∃c,cs.lookup m=some c)->∃c,cl.lookup m=some c
 | [],cs,e,h=>by cases e;exact h
 | (n,k)::r,cs,e,h=>by
  unfold clGo at e
  by_cases hk:(k == NameKind.free)=true
  ·rw[if_pos hk] at e
   cases hc:env.cells.lookup n with
   | none=>rw[hc] at e;cases e
   | some c=>
    rw[hc] at e
    refine jXb e ?_
    rw[List.lookup_cons]
    by_cases hm:(m == n)=true
    ·rw[hm];exact⟨_,rfl⟩
    ·simp only[hm];exact h
  ·rw[if_neg hk] at e
   exact jXb e h
theorem jQ1 {env:Env} {cl:List (Str×Addr)} {m:Str}:∀ {names:List (Str×NameKind)} {cs:List (Str×Addr)},clGo env names cs=some cl->names.lookup m=some .free->∃c,cl.lookup m=some c
 | [],cs,e,h=>by simp at h
 | (n,k)::r,cs,e,h=>by
  unfold clGo at e
  rw[List.lookup_cons] at h
  by_cases hm:(m == n)=true
  ·rw[hm] at h
   cases h
   rw[if_pos (show (NameKind.free == NameKind.free)=true from rfl)] at e
   cases hc:env.cells.lookup n with
   | none=>rw[hc] at e;cases e
   | some c=>
    rw[hc] at e
    refine jXb e ?_
    rw[List.lookup_cons,hm];exact⟨_,rfl⟩
  ·simp only[hm] at h
   by_cases hk:(k == NameKind.free)=true
   ·rw[if_pos hk] at e
    cases hc:env.cells.lookup n with
    | none=>rw[hc] at e;cases e
    | some c=>rw[hc] at e;exact jQ1 e h
   ·rw[if_neg hk] at e
    exact jQ1 e h
theorem jK1 {env:Env} {x:Str}:∀ {names:List (Str×NameKind)},(∀y∈names,y.2≠ .cell)->
  ((names.map fun (n,k)=>if (k == NameKind.free&&env.scope.kind == .function&&env.kindOf n == some .cell) then (n,NameKind.cell) else (n,k)).lookup x=some .cell\/
    (names.map fun (n,k)=>if (k == NameKind.free&&env.scope.kind == .function&&env.kindOf n == some .cell) then (n,NameKind.cell) else (n,k)).lookup x=some .free)->names.lookup x=some .free
 | [],_,h=>by simp at h
 | (n,k)::r,hc,h=>by
  have ih:= @jK1 env x r (fun y hy=>hc y (List.mem_cons_of_mem _ hy))
  have hk:=hc (n,k) List.mem_cons_self
  rw[List.map_cons] at h
  rw[List.lookup_cons]
  by_cases hx:(x == n)=true
  ·rw[hx]
   by_cases hf:(k == NameKind.free&&env.scope.kind == .function&&env.kindOf n == some .cell)=true
   ·have:(k == NameKind.free)=true:=by
     rw[Bool.and_eq_true,Bool.and_eq_true] at hf;exact hf.1.1
    rw[eq_of_beq this]
   ·simp only[hf,if_false,Bool.false_eq_true,List.lookup_cons,hx] at h
    rcases h with h | h
    ·cases h;exact absurd rfl hk
    ·cases h;rfl
  ·simp only[hx]
   refine ih ?_
   by_cases hf:(k == NameKind.free&&env.scope.kind == .function&&env.kindOf n == some .cell)=true
   ·simpa only[hf,if_true,List.lookup_cons,hx] using h
   ·simpa only[hf,if_false,Bool.false_eq_true,List.lookup_cons,hx] using h
theorem jJ8 {env:Env} {x:Str}:∀ {names:List (Str×NameKind)},
  (names.map fun (n,k)=>if (k == NameKind.free&&env.scope.kind == .function&&env.kindOf n == some .cell) then (n,NameKind.cell) else (n,k)).lookup x=some .local->names.lookup x=some .local
 | [],h=>by simp at h
 | (n,k)::r,h=>by
  have ih:= @jJ8 env x r
  rw[List.map_cons] at h
  rw[List.lookup_cons]
  by_cases hx:(x == n)=true
  ·rw[hx]
   by_cases hf:(k == NameKind.free&&env.scope.kind == .function&&env.kindOf n == some .cell)=true
   ·simp only[hf,if_true,List.lookup_cons,hx] at h;cases h
   ·simp only[hf,if_false,Bool.false_eq_true,List.lookup_cons,hx] at h;exact h
  ·simp only[hx]
   refine ih ?_
   by_cases hf:(k == NameKind.free&&env.scope.kind == .function&&env.kindOf n == some .cell)=true
   ·simpa only[hf,if_true,List.lookup_cons,hx] using h
   ·simpa only[hf,if_false,Bool.false_eq_true,List.lookup_cons,hx] using h
noncomputable def jQc (X:Cx) (scope:Scope) (cl:List (Str×Addr)) (C:Addr) (fp:List Addr) (s:Shared) (H:Hp):Cx:=
 {X with env:=compEnvC scope cl C X.env,s₀:=s,H₀:=H,outer:=X.stack,stack:=X.stack,ex:=fp,fn:=fun _=>false,pn:=[],xe:=fun _ _=>False}
structure CmpOk (X:Cx) (scope:Scope) (cl:List (Str×Addr)) (mask:List Bool):Prop where
 cl:clGo X.env scope.names []=some cl
 kind:scope.kind= .function
 nocell:(scope.names.all fun y=>y.2 != .cell)=true
 names:(scope.names.all fun y=>y.2 != .local||scope.names.lookup y.1 == some .local)=true
 vis:(scope.names.all fun y=>y.2 != .free||X.env.kindOf y.1 == some .cell||X.env.kindOf y.1 == some .free)=true
 len:mask.length=X.N.length
 mask:((X.N.zip mask).all fun p=>p.2||scope.names.lookup p.1 != some .local)=true
def msk {α:Type} (mask:List Bool) (τ:List (Option α)):List (Option α):=List.zipWith (fun b o=>if b=true then none else o) mask τ
theorem jV6 {α:Type} {mask:List Bool} {τ:List (Option α)} {i:Nat} {t:α} (h:(msk mask τ)[i]? =some (some t)):mask[i]? =some false/\τ[i]? =some (some t):=by
 unfold msk at h
 rw[List.getElem?_zipWith] at h
 cases hm:mask[i]? with
 | none=>exact absurd (hm▸h) (by simp)
 | some b=>
  cases ht:τ[i]? with
  | none=>rw[hm,ht] at h;cases h
  | some o=>
   rw[hm,ht] at h
   cases b with
   | true=>simp at h
   | false=>simp at h;exact⟨rfl,by rw[h]⟩
theorem jQh {α:Type} {mask:List Bool} {τ:List (Option α)} (h:mask.length=τ.length):(msk mask τ).length=τ.length:=by
 unfold msk;rw[List.length_zipWith,h,Nat.min_self]
theorem jYj {K:PySem.W.Frag} {H:Hp} {σ:L2.St} {τ:St3} {mask:List Bool} (h:SRel K H σ τ) (hl:mask.length=τ.length):SRel K H (msk mask σ) (msk mask τ):=by
 refine⟨by rw[jQh hl,jQh (hl.trans h.1.symm),h.1],fun i t q=> ?_⟩
 obtain⟨h1,h2⟩:=jV6 q
 obtain⟨v,h3,h4⟩:=h.2 i t h2
 refine⟨v,?_,h4⟩
 unfold msk
 rw[List.getElem?_zipWith,h1,h3]
 simp
section
variable {X:Cx} {scope:Scope} {cl:List (Str×Addr)} {mask:List Bool}
theorem CmpOk.local (c:CmpOk X scope cl mask) {i:Nat} {x:Str} (h1:X.N[i]? =some x) (h2:mask[i]? =some false):scope.names.lookup x≠some .local:=by
 have h:=c.mask
 rw[List.all_eq_true] at h
 have hz:(X.N.zip mask)[i]? =some (x,false):=by rw[List.getElem?_zip_eq_some];exact⟨h1,h2⟩
 have:=h _ (List.mem_of_getElem? hz)
 simpa using this
theorem CmpOk.free (c:CmpOk X scope cl mask) {x:Str} (h:scope.names.lookup x=some .free):X.env.kindOf x=some .cell\/X.env.kindOf x=some .free:=by
 have hv:=c.vis
 rw[List.all_eq_true] at hv
 have:=hv (x,.free) (PySem.mem_of_lookup h)
 simpa using this
theorem CmpOk.nc (c:CmpOk X scope cl mask):∀y∈scope.names,y.2≠ .cell:=by
 have hv:=c.nocell
 rw[List.all_eq_true] at hv
 intro y hy
 simpa using hv y hy
theorem CmpOk.nm (c:CmpOk X scope cl mask):∀y∈scope.names,y.2= .local->scope.names.lookup y.1=some .local:=by
 have hv:=c.names
 rw[List.all_eq_true] at hv
 intro y hy e
 have:=hv y hy
 rw[e] at this
 simpa using this
theorem kUm (c:CmpOk X scope cl mask) {pins:List (Addr×Obj)} {σ:L2.St} {H:Hp} {s:Shared} {fp:List Addr} {h4:Heap} {tk:Nat} (I:Inv X pins σ H s) (hf:∀b∈fp,FpOk X pins H b) (ho:∀b∈fp,∃o,s.heap.get? b=some o)
  (hns:h4.Ns s.heap.objs.size fun _=>none) (hk:∀b o,s.heap.get? b=some o->h4.get? b=some o):
  Inv (jQc X scope cl s.heap.objs.size fp s H) [] (msk mask σ) H {s with heap:=h4,toks:=tk}:=by
 have sub:=jQ0 c.cl (by simp)
 have ok:(jQc X scope cl s.heap.objs.size fp s H).Ok:=by
  refine⟨I.ok.mod,c.kind,I.ok.glob,I.ok.blt,Nat.le_refl _,fun x y d h1 h2=>I.ok.inj x y d (sub _ _ h1) (sub _ _ h2),fun x hx=>jQ1 c.cl (jK1 (env:=X.env) c.nc hx),fun x d hx=>absurd (show false=true from hx) Bool.false_ne_true,I.ok.hd,I.ok.gd,I.ok.frames,.inl rfl,
   fun b hb=> ?_,I.bs,Nat.le_trans I.ok.bsz I.sz,fun b o e hb=> ?_,fun b hb hz=> ?_,I.stack,I.stkFree⟩
  ·obtain⟨o,e⟩:=ho b hb
   exact⟨Nat.ne_of_lt (Heap.lt_size e),fun x d hd=>(hf b hb).2.2.2.2.1 x d (sub _ _ hd)⟩
  ·rcases (hf b hb).2.2.2.1 with z | z
   ·exact I.ok.noex b o e z
   ·exact absurd (Nat.lt_of_lt_of_le (Heap.lt_size e) I.ok.bsz) (Nat.not_lt.mpr z)
  ·rcases List.mem_cons.mp (I.stkSub b hz) with z | z
   ·exact (hf b hb).2.1 z
   ·exact (hf b hb).2.2.1 z
 refine⟨ok,rfl,I.bare,Un.kept hk,⟨_,hns,fun i x v h1 h2 h3=> ?_⟩,fun x d hd=> ?_,I.hok.fresh (Nat.le_refl _),fun x d hd=>I.freeC x d (sub _ _ hd),fun p hp=>absurd (show p∈([]:List (Addr×Obj)) from hp) (by simp),I.hok.kept hk,?_⟩
 ·obtain⟨m1,m2⟩:=jV6 h2
  have nl:=c.local h1 m1
  have fr:scope.names.lookup x=some .free:=by
   rcases h3 with z | z | z
   ·exact absurd (jJ8 (env:=X.env) z) nl
   ·exact jK1 (env:=X.env) c.nc (.inl z)
   ·exact jK1 (env:=X.env) c.nc (.inr z)
  have hkk:=c.free fr
  obtain⟨m,hn,hl⟩:=I.loc
  have vis:Vis X.env.scope x:=by rcases hkk with z | z;exact .inr (.inl z);exact .inr (.inr z)
  obtain⟨u,ru,lk⟩:=hl i x v h1 m2 vis
  refine⟨u,ru,?_⟩
  rcases lk with ⟨z,_⟩ | ⟨_,d,hd,cd⟩
  ·exfalso;rcases hkk with q | q<;>(rw[z] at q;cases q)
  ·obtain⟨d',hd'⟩:=jQ1 c.cl fr
   have:d'=d:=by have:=sub _ _ hd';rw[hd] at this;exact (Option.some.inj this).symm
   subst this
   refine .inr ⟨?_,d',hd',cd.keeps hk⟩
   rcases h3 with z | z | z
   ·exact absurd (jJ8 (env:=X.env) z) nl
   ·exact .inl z
   ·exact .inr z
 ·obtain⟨v,hv⟩:=I.cell x d (sub _ _ hd)
  exact⟨v,hv.keeps hk⟩
 ·exact (jQh (c.len.trans I.len.symm)).trans I.len
theorem kZq {pins:List (Addr×Obj)} {σ σ':L2.St} {H H':Hp} {s s':Shared} {fp:List Addr} {pl:List (Addr×Obj)} {C:Addr} (I:Inv X pins σ H s) (hf:∀b∈fp,FpOk X pins H b) (hC:s.heap.objs.size<=C)
  (J:Inv (jQc X scope cl C fp s H) pl σ' H' s') {h':Heap} (hb:Heap.SameBut C s'.heap h'):Inv X pins σ H' {s' with heap:=h'}:=by
 have ne:∀b o,s.heap.get? b=some o->b≠C:=fun b o e=>Nat.ne_of_lt (Nat.lt_of_lt_of_le (Heap.lt_size e) hC)
 have u:=J.base
 have hfree:H' C=none:=J.free
 have u':Un (frs X.stack) fp H H' s.heap h':=⟨fun b o e n hb' hx=>(hb.2 b (ne b o e)).trans (u.keep b o e n hb' hx),fun b o e n hb' hx=>let ⟨sl,z⟩:=u.slot b o e n hb' hx;⟨sl,(hb.2 b (ne b o e)).trans z⟩,
  u.free,fun b o e hx=>let ⟨o',z⟩:=u.there b o e hx;⟨o',(hb.2 b (ne b o e)).trans z⟩,u.tups,u.frzs,u.tbls⟩
 have hok:HOk X.prog X.w H' h':=fun b ob e=>(J.hok b ob e).stay (fun c w' hc q=>(hb.2 c (by
  rintro rfl
  rcases hc with rfl | hc
  ·rw[hfree] at e;cases e
  ·rw[hfree] at hc;cases hc)).trans q) (fun _ q=>q) fun _ _ q=>q
 exact I.call' (s':={s' with heap:=h'}) J.os u' hok J.bare fun b hb=>⟨(hf b hb).2.2.2.1,(hf b hb).2.1,(hf b hb).2.2.2.2.1,(hf b hb).2.2.2.2.2⟩
end
abbrev kUl (ifs:List Expr) (env:Env):Sem Bool:=forIn ifs true fun c b=>if b=true then isTrue c env (eval c env) >>= fun d=>pure (ForInStep.yield d) else pure (ForInStep.yield b)
noncomputable def kXn (M:Model) (A:Around) (elt tg:Expr) (ifs:List Expr) (it acc:Value) (env:Env) (stop more:Shared->Prop):Option Value->Shared->Prop
 | none=>stop
 | some v=>fun z=>wpAny M A (letOwnedTupleGo tg it v) (fun _ z1=>wpAny M A (assign tg env v) (fun _ z2=>wpAny M A (kUl ifs env) (fun ok z3=>if ok=true then wpAny M A (eval elt env) (fun x z4=>wpAny M A (call (.builtin "list.append") [acc,x]) (fun _=>more) (fun _ _=>False) z4) (fun _ _=>False) z3 else more z3) (fun _ _=>False) z2) (fun _ _=>False) z1) (fun _ _=>False) z
theorem jZg {P:Program} {w:World} {A:Around} {R:Result->Shared->Prop} {s:Shared} {elt tg iter:Expr} {ifs:List Expr} {scope:Scope} {pos:Pos} {it acc:Value} {env:Env} (I:Nat->Shared->Prop)
  (turn:∀k z,I k z->wpAny (model P w) A (pyNext it) (kXn (model P w) A elt tg ifs it acc env (R (.ok .next)) fun z'=>∃m,m<k/\I m z') (fun _ _=>False) z) (n:Nat) (h:I n s):codeAny (model P w) A (.compLoop (.ListComp elt [⟨tg,iter,ifs,0⟩] scope pos) 0 it acc env) R s:=by
 refine codeAny_loop rfl I (fun k z hz=>(show wpAny _ A ((compTurn (.ListComp elt [⟨tg,iter,ifs,0⟩] scope pos) 0 it acc env).onRaise _) _ _ z from wpAny_noted ?_)) n h
 rw[compTurn_list]
 refine wpAny_bind (wpAny_standAt (wpAny_bind (wpAny_mono (turn k z hz) (fun r z1 h1=> ?_) fun _ _ e=>e.elim)))
 cases r with
 | none=>exact wpAny_pure h1
 | some v=>
  refine wpAny_bind (wpAny_mono h1 (fun _ z2 h2=>wpAny_bind (wpAny_mono h2 (fun _ z3 h3=>wpAny_bind (wpAny_mono h3 (fun ok z4 h4=> ?_) fun _ _ e=>e.elim)) fun _ _ e=>e.elim)) fun _ _ e=>e.elim)
  by_cases hok:ok=true
  ·subst hok
   exact wpAny_bind (wpAny_bind (wpAny_mono h4 (fun x z5 h5=>wpAny_bind (wpAny_mono h5 (fun _ z6 h6=>wpAny_pure (wpAny_pure ⟨rfl,h6⟩)) fun _ _ e=>e.elim)) fun _ _ e=>e.elim))
  ·obtain rfl:ok=false:=by simpa using hok
   exact wpAny_pure ⟨rfl,h4⟩
noncomputable def PIf3 (X:Cx) (ifs:List Expr) (t:TT3):Prop:=∀(pins:List (Addr×Obj)) (s:Shared) (τ:St3) (G:Gp) (H:Hp) (Q:Bool->Gp->Prop),Inv3 X pins τ G H s->t τ G Q->
 wpAny (model X.prog X.w) X.A (forIn ifs true fun c r=>if r=true then do let ok <-isTrue c X.env (eval c X.env);pure (ForInStep.yield ok) else pure (ForInStep.yield r)) (TP3 X pins τ H Q) X.xe s
def jK6:TT3:=fun _ G Q=>Q true G
theorem jUh {X:Cx}:PIf3 X [] jK6:=fun _ _ _ G H _ I q=>wpAny_tests_nil ⟨G,H,.refl H,I,q⟩
theorem kXx {X:Cx} {c:Expr} {t:TT3} (h:PT3 X c t):PIf3 X [c] t:=fun pins s τ G H Q I q=>wpAny_tests_one (h pins s τ G H Q I q)
def jZq (mask:List Bool) (g:TG3):Prop:=∀v τ G Q,g v τ G Q->g v τ G fun τ2 G2=>Q τ2 G2/\τ2.length=τ.length/\∀i:Nat,mask[i]? ≠some true->τ2[i]? =τ[i]?
def kJ6 (mask:List Bool) (g:TGs3):Prop:=∀v τ G Q,g v τ G Q->g v τ G fun τ2 G2=>Q τ2 G2/\τ2.length=τ.length/\∀i:Nat,mask[i]? ≠some true->τ2[i]? =τ[i]?
theorem jKf {mask:List Bool} {i:Nat} (h:mask[i]? =some true:=by rfl):jZq mask (jJd i):=fun v τ G Q q=>
 ⟨q,List.length_set ..,fun j hj=>List.getElem?_set_ne (by rintro rfl;exact hj h)⟩
theorem kXz {mask:List Bool}:kJ6 mask gNil:=fun v τ G Q ⟨e,q⟩=>⟨e,q,rfl,fun _ _=>rfl⟩
theorem jYl {mask:List Bool} {t:TG3} {u:TGs3} (h1:jZq mask t) (mono:∀v τ G Q Q',(∀a b,Q a b->Q' a b)->t v τ G Q->t v τ G Q') (h2:kJ6 mask u) (mono2:∀v τ G Q Q',(∀a b,Q a b->Q' a b)->u v τ G Q->u v τ G Q'):kJ6 mask (jJu t u):=fun vs τ G Q ⟨v,r,e,q⟩=>by
 refine⟨v,r,e,mono _ _ _ _ _ (fun τ2 G2 ⟨z,l1,k1⟩=> ?_) (h1 _ _ _ _ q)⟩
 exact mono2 _ _ _ _ _ (fun τ3 G3 ⟨z3,l3,k3⟩=>⟨z3,l3.trans l1,fun i hi=>(k3 i hi).trans (k1 i hi)⟩) (h2 _ _ _ _ z)
theorem jU2 {i:Nat}:∀v τ G (Q Q':St3->Gp->Prop),(∀a b,Q a b->Q' a b)->jJd i v τ G Q->jJd i v τ G Q':=fun _ _ _ _ _ h q=>h _ _ q
theorem kJy:∀v τ G (Q Q':St3->Gp->Prop),(∀a b,Q a b->Q' a b)->gNil v τ G Q->gNil v τ G Q':=fun _ _ _ _ _ h q=>⟨q.1,h _ _ q.2⟩
theorem kQ5 {t:TG3} {u:TGs3} (m1:∀v τ G (Q Q':St3->Gp->Prop),(∀a b,Q a b->Q' a b)->t v τ G Q->t v τ G Q') (m2:∀v τ G (Q Q':St3->Gp->Prop),(∀a b,Q a b->Q' a b)->u v τ G Q->u v τ G Q'):
  ∀v τ G (Q Q':St3->Gp->Prop),(∀a b,Q a b->Q' a b)->jJu t u v τ G Q->jJu t u v τ G Q':=fun _ _ _ _ _ h ⟨v,r,e,q⟩=>⟨v,r,e,m1 _ _ _ _ _ (fun _ _ z=>m2 _ _ _ _ _ h z) q⟩
theorem kXy {mask:List Bool} {n:Nat} {u:TGs3} (h:kJ6 mask u):jZq mask (gTup n u):=fun v τ G Q ⟨xs,e,l,q⟩=>⟨xs,e,l,h _ _ _ _ q⟩
theorem kJr {mask:List Bool} {τ τ2:St3} (hl:mask.length=τ.length) (l:τ2.length=(msk mask τ).length) (h:∀i:Nat,mask[i]? ≠some true->τ2[i]? =(msk mask τ)[i]?):msk mask τ2=msk mask τ:=by
 have ll:=jQh hl
 apply List.ext_getElem?
 intro i
 unfold msk at h ⊢
 rw[List.getElem?_zipWith,List.getElem?_zipWith]
 cases hm:mask[i]? with
 | none=>rfl
 | some b=>
  cases b with
  | true=>
   have h1:i<mask.length:=by
    rcases Nat.lt_or_ge i mask.length with z | z
    ·exact z
    ·rw[List.getElem?_eq_none z] at hm;cases hm
   have h2:i<τ2.length:=by omega
   have h3:i<τ.length:=by omega
   rw[List.getElem?_eq_getElem h2,List.getElem?_eq_getElem h3]
   simp
  | false=>
   have:=h i (by rw[hm];simp)
   rw[List.getElem?_zipWith,hm] at this
   rw[this]
   cases τ[i]? with
   | none=>rfl
   | some o=>simp
noncomputable def jX2 (mask:List Bool) (g:TG3) (tif:TT3) (te:TE3) (τ:St3) (xs:List T) (stay:Gp->Prop) (G:Gp) (Q:VK3):Prop:=
 ∀D,G D=none->∃P:Nat->List T->Gp->Prop,P 0 [] (gup G D (.lst []))/\(∀i acc G,i<=xs.length->P i acc G->stay G/\G D=some (.lst acc))/\
  (∀i x acc G,xs[i]? =some x->P i acc G->g x (msk mask τ) G fun τ2 G2=>tif τ2 G2 fun b G3=>if b=true then te τ2 G3 fun y G4=>G4 D=some (.lst acc)/\acc.length<sizeLine/\P (i+1) (acc++[y]) (gup G4 D (.lst (acc++[y]))) else P (i+1) acc G3)/\
  ∀acc G,P xs.length acc G->Q (.ref D) G
def jKh (mask:List Bool) (wi:TI3) (g:TG3) (tif:TT3) (te:TE3):TE3:=fun τ G Q=>wi τ G fun xs stay G1=>jX2 mask g tif te τ xs stay G1 Q
section
variable {X:Cx} {scope:Scope} {cl:List (Str×Addr)} {mask:List Bool} {elt iter tg:Expr} {ifs:List Expr} {pos:Pos} {wi:TI3} {g:TG3} {tif:TT3} {te:TE3}
theorem jXx (hc:X.calm=true) (ok:CmpOk X scope cl mask)
  (hgk:jZq mask g) (hg:∀C fp s H,PG3 (jQc X scope cl C fp s H) tg g) (hif:∀C fp s H,PIf3 (jQc X scope cl C fp s H) ifs tif) (he:∀C fp s H,PE3 (jQc X scope cl C fp s H) elt te)
  {pins:List (Addr×Obj)} {τ:St3} {H:Hp} {Q:VK3} {itv:Value} {s2:Shared} {E:Value->Shared->Prop} {RR:Value->Addr->Result->Shared->Prop}
  (h2:PIE3 X pins τ H tg (fun xs stay G=>jX2 mask g tif te τ xs stay G Q) itv s2)
  (hRR:∀D C s' m,s'.heap.Ns C m->(∃G1 H1,Ext H H1/\H1 C=none/\Q (.ref D) G1/\∀h',Heap.SameBut C s'.heap h'->Inv3 X pins τ G1 H1 {s' with heap:=h'})->(∃oC,s'.heap.get? C=some oC/\C≠X.env.locals/\C∉X.fs/\∀v,oC.data≠ .cell v)->(∀x c,X.env.cells.lookup x=some c->c≠C)->(∀p∈X.pn++pins,p.1≠C)->X.s₀.heap.objs.size<=C->RR (.ref D) C (.ok .next) s'):
  wpAny (model X.prog X.w) X.A (newList []) (fun acc s₃=>wpAny (model X.prog X.w) X.A (newFunctionEnv scope X.env.globals cl [] X.env.qual none .none (some X.env)) (fun cenv s₄=>
   codeAny (model X.prog X.w) X.A (.compStart (.ListComp elt [⟨tg,iter,ifs,0⟩] scope pos) 0 itv acc {cenv with scope:=relabel scope X.env}) (RR acc cenv.locals) s₄) E s₃) E s2:=by
 obtain⟨it,fp,tn,J,xs,stay,G2,H2,e,eH,⟨σ,I2,hs2,hg2⟩,T0,st2,f2,IT,hq⟩:=h2
 subst e
 refine wpAny_newObj_type (wpAny_newFunctionEnv ok.nc (by intro y hy;simp at hy) (fun h4 hns hsb=> ?_) ok.kind)
 dsimp only at hns hsb ⊢
 have hD:H2 s2.heap.objs.size=none:=I2.hok.fresh (Nat.le_refl _)
 generalize hs3:({s2 with heap:=s2.heap.push {cls:= .type "list",dict:=none,data:= .seq ([]:List Value).toArray} }:Shared)=s3
 have eh3:s2.heap.push {cls:= .type "list",dict:=none,data:= .seq ([]:List Value).toArray}=s3.heap:=by rw[<-hs3]
 have I3:Inv X pins σ (upd H2 s2.heap.objs.size (.lst [])) s3:=by
  rw[<-hs3]
  exact I2.laid (t':=s2.toks) (fun b u e=>Heap.get?_push_of_some _ e) (Nat.le_refl _) ⟨Nat.zero_le _,[],0,.nil,Heap.get?_push_size _ rfl⟩
 rw[eh3] at hns hsb ⊢
 generalize hDd:s2.heap.objs.size=D at *
 have e3:Ext H2 (upd H2 D (.lst [])):= .upd (.none hD)
 have hg3:GRel X.K (upd H2 D (.lst [])) (gup G2 D (.lst [])):=hg2.lstNew (show Reps X.K H2 [] [] from rfl) (.none hD)
 have obj2:∀b∈fp,∃o,s2.heap.get? b=some o:=fun b hb=>let ⟨o,e,_⟩:=T0.obj 0 _ st2 b hb;⟨o,e⟩
 have fD:∀b∈fp,b≠D:=fun b hb=>by obtain⟨o,e⟩:=obj2 b hb;rw[<-hDd];exact Nat.ne_of_lt (Heap.lt_size e)
 have f3:∀b∈fp,FpOk X pins (upd H2 D (.lst [])) b:=fun b hb=>⟨by rw[jJr (fD b hb)];exact (f2 b hb).1,(f2 b hb).2⟩
 have k3:∀b o,s2.heap.get? b=some o->s3.heap.get? b=some o:=fun b o e=>by rw[<-eh3];exact Heap.get?_push_of_some _ e
 have obj3:∀b∈fp,∃o,s3.heap.get? b=some o:=fun b hb=>let ⟨o,e⟩:=obj2 b hb;⟨o,k3 b o e⟩
 have k4:∀b o,s3.heap.get? b=some o->h4.get? b=some o:=fun b o e=>hsb.extBut b o (Nat.ne_of_lt (Heap.lt_size e)) (Heap.get?_push_of_some _ e)
 have Ic:Inv (jQc X scope cl s3.heap.objs.size fp s3 (upd H2 D (.lst []))) [] (msk mask σ) (upd H2 D (.lst [])) {s3 with heap:=h4,toks:=s3.toks+([]:List (Str×Value)).length}:=kUm ok I3 f3 obj3 hns k4
 have st4:tn 0 h4:=T0.keep _ _ _ st2 fun b _ o e=>k4 b o (k3 b o e)
 have hl3:mask.length=τ.length:=ok.len.trans (I3.len.symm.trans hs2.1)
 obtain⟨P,p0,hst,turn,fin⟩:=hq D (hg2.fresh hD)
 have fpc:∀ {H':Hp} {pl:List (Addr×Obj)},(∀b∈fp,H' b=none)->(∀p∈pl,p.1∉fp)->∀b∈fp,FpOk (jQc X scope cl s3.heap.objs.size fp s3 (upd H2 D (.lst []))) pl H' b:=fun {H' pl} hn hp b hb=>by
  obtain⟨o,e⟩:=obj3 b hb
  refine⟨hn b hb,Nat.ne_of_lt (Heap.lt_size e),?_,.inl hb,fun x d hd=>(f3 b hb).2.2.2.2.1 x d (jQ0 ok.cl (by simp) _ _ hd),fun p hpp z=> ?_⟩
  ·intro z
   rcases List.mem_cons.mp (I3.stkSub b z) with q | q
   ·exact (f3 b hb).2.1 q
   ·exact (f3 b hb).2.2.1 q
  ·have hpp':p∈pl:=by simpa[jQc] using hpp
   exact hp p hpp' (z▸hb)
 have loop:∀s4:Shared,s4={s3 with heap:=h4,toks:=s3.toks+([]:List (Str×Value)).length}->
   codeAny (model X.prog X.w) X.A (.compLoop (.ListComp elt [⟨tg,iter,ifs,0⟩] scope pos) 0 (.ref it) (.ref D) (compEnvC scope cl s3.heap.objs.size X.env)) (RR (.ref D) s3.heap.objs.size) s4:=by
  rintro s4 rfl
  refine jZg (fun n s'=>∃i acc G' H',n=xs.length-i/\i<=xs.length/\Ext H2 H'/\Inv3 (jQc X scope cl s3.heap.objs.size fp s3 (upd H2 D (.lst []))) [] (msk mask τ) G' H' s'/\tn i s'.heap/\(∀b∈fp,H' b=none)/\P i acc G') ?_ xs.length
   ⟨0,[],_,_,rfl,Nat.zero_le _,e3,⟨_,Ic,jYj (hs2.mono e3) hl3,hg3⟩,st4,fun b hb=>(f3 b hb).1,p0⟩
  rintro n s5 ⟨i,acc,G5,H5,en,hi5,e5,⟨σ5,I5,hs5,hg5⟩,st5,fr5,p5⟩
  obtain⟨hstay,hacc⟩:=hst i acc G5 hi5 p5
  obtain⟨go,stop,yl⟩:=IT i H5 G5 e5 hg5 hstay
  by_cases hlt:i<xs.length
  ·refine thn (T0.item (jQc X scope cl s3.heap.objs.size fp s3 (upd H2 D (.lst []))) rfl rfl rfl hc i [] s5 σ5 H5 (fun _ _=>False) I5 (fpc fr5 (by simp)) st5 (go hlt)) fun r s6 ⟨u,hr,h6⟩=> ?_
   subst hr
   refine thn h6 fun _ s7 ⟨x,H7,I7,r7,y7,st7,fr7⟩=> ?_
   obtain⟨e7,g7,t,ht,rt⟩:=yl hlt x H7 y7
   have I7':=I7.pinned (fpc fr7 (by simp)) (T0.obj _ _ st7)
   refine thn (hg _ _ _ _ ([]++jKy fp s7.heap) s7 (msk mask τ) G5 H7 t u _ ⟨σ5,I7',hs5.mono e7,g7⟩ ⟨x,rt,r7⟩ (hgk _ _ _ _ (turn i t acc G5 ht p5))) fun _ s8 ⟨τ8,G8,H8,e8,I8,q8,ql8,qk8⟩=> ?_
   refine thn (hif _ _ _ _ ([]++jKy fp s7.heap) s8 τ8 G8 H8 _ I8 q8) fun b s9 ⟨G9,H9,e9,I9,q9⟩=> ?_
   have back:∀ {Ga:Gp} {Ha:Hp} {sa:Shared} {acc':List T},Ext H7 Ha->Inv3 (jQc X scope cl s3.heap.objs.size fp s3 (upd H2 D (.lst []))) ([]++jKy fp s7.heap) τ8 Ga Ha sa->P (i+1) acc' Ga->
     ∃m,m<n/\∃i acc G' H',m=xs.length-i/\i<=xs.length/\Ext H2 H'/\Inv3 (jQc X scope cl s3.heap.objs.size fp s3 (upd H2 D (.lst []))) [] (msk mask τ) G' H' sa/\tn i sa.heap/\(∀b∈fp,H' b=none)/\P i acc G':=by
    rintro Ga Ha sa acc' ea ⟨σa,Ia,hsa,hga⟩ pa
    have e2a:Ext H5 Ha:=e7.trans ea
    have hla:mask.length=τ8.length:=by rw[ql8,jQh hl3];exact hl3
    have hsm:=jYj (mask:=mask) hsa hla
    rw[kJr hl3 ql8 qk8] at hsm
    refine⟨xs.length-(i+1),by omega,i+1,acc',Ga,Ha,rfl,hlt,e5.trans e2a,⟨msk mask σa,(Ia.weak (jQh (hla.trans hsa.1.symm)) fun j v hv=>(jV6 hv).2).pins_of (fun p hp=>absurd hp (by simp)),hsm,hga⟩,?_,fun b hb=> ?_,pa⟩
    ·exact T0.keep _ _ _ st7 fun b hb o e=>(Ia.pin (b,o) (List.mem_append_right _ (List.mem_append_right _ (jKs hb e)))).1
    ·obtain⟨o,e,d⟩:=T0.obj _ _ st7 b hb
     exact (Ia.pin (b,o) (List.mem_append_right _ (List.mem_append_right _ (jKs hb e)))).2.1
   cases b with
   | false=>
    rw[if_neg Bool.false_ne_true] at q9 ⊢
    exact back (e8.trans e9) I9 q9
   | true=>
    rw[if_pos rfl] at q9 ⊢
    refine thn (he _ _ _ _ ([]++jKy fp s7.heap) s9 τ8 G9 H9 _ I9 q9) fun y s10 w_=>w_.el fun ty G10 H10 e10 I10 r10 ⟨hD10,hz10,q10⟩=> ?_
    obtain⟨vy,rvy,ruy⟩:=r10
    refine thn (jQz ([]++jKy fp s7.heap) s10 τ8 G10 H10 (.ref D) [ty] (.ref D) [y] (fun _ G'=>P (i+1) (acc++[ty]) G') I10 ⟨.ref D,rfl,rfl⟩ ⟨[vy],.one rvy,.cons ruy .nil⟩ ⟨D,acc,ty,rfl,rfl,hD10,hz10,q10⟩) fun _ s11 w_=>w_.el fun _ G11 H11 e11 I11 _ q11=> ?_
    exact back (((e8.trans e9).trans e10).trans e11) I11 q11
  ·have ei:i=xs.length:=by omega
   refine thn (T0.done (jQc X scope cl s3.heap.objs.size fp s3 (upd H2 D (.lst []))) rfl rfl rfl hc i [] s5 σ5 H5 (fun _ _=>False) I5 (fpc fr5 (by simp)) st5 (stop (by omega))) fun r s6 ⟨hr,I6⟩=> ?_
   subst hr;subst ei
   obtain⟨m,hn,_⟩:=I6.loc
   obtain⟨oC,es,ep,hoC,hdC,_⟩:=id hn
   refine hRR D s3.heap.objs.size s6 m hn ⟨G5,H5,eH.trans e5,I6.free,fin acc G5 p5,fun h' hb=>⟨σ,kZq I3 f3 (Nat.le_refl _) I6 hb,hs2.mono e5,hg5⟩⟩
    ⟨oC,hoC,Nat.ne_of_gt I3.lt,I3.nofs (Nat.le_refl _),fun v z=>by rw[hdC] at z;cases z⟩ (fun x d hd=> ?_) (fun p hp=> ?_) I3.sz
   ·obtain⟨v,q⟩:=I3.cell x d hd
    exact Nat.ne_of_lt q.lt
   ·exact Nat.ne_of_lt (Heap.lt_size (I3.pin p hp).1)
 exact codeAny_compStart_list (loop _ (by rw[<-hs3])) (T0.self _ 0 _ _ _ st4 (loop _ (by rw[<-hs3])))
theorem jVf (hc:X.calm=true) (ok:CmpOk X scope cl mask) (hi:PI3 X tg iter wi) (hgk:jZq mask g) (hg:∀C fp s H,PG3 (jQc X scope cl C fp s H) tg g) (hif:∀C fp s H,PIf3 (jQc X scope cl C fp s H) ifs tif) (he:∀C fp s H,PE3 (jQc X scope cl C fp s H) elt te)
  (hs:∀x,foldedSetIterable iter X.env x=pure x:=by intro _;rfl):PE3 X (.ListComp elt [⟨tg,iter,ifs,0⟩] scope pos) (jKh mask wi g tif te):=by
 intro pins s τ G H Q I h
 rw[eval_ListComp]
 refine wpAny_comprehension_free (use:=none) rfl hs (jU7 ok.cl) ok.kind ok.nm (thn (hi pins s τ G H _ I h) fun xv s1 h1=>thn h1 fun itv s2 h2=> ?_)
 refine jXx (RR:=fun acc C=>compPost (model X.prog X.w) X.A X.xe none (EP3 X pins τ H Q) acc C) hc ok hgk hg hif he h2 ?_
 rintro D C s' m hn ⟨G1,H1,e1,_,q1,hI⟩ _ _ _ _
 exact⟨m,hn,fun h' hb=>⟨.ref D,G1,H1,e1,hI h' hb,⟨.ref D,rfl,rfl⟩,q1⟩⟩
theorem kXq {i:Nat} {y:Str} {py spos:Pos} (hc:X.calm=true) (hN:X.N.Nodup) (ok:CmpOk X scope cl mask) (hi:PI3 X tg iter wi) (hgk:jZq mask g) (hg:∀C fp s H,PG3 (jQc X scope cl C fp s H) tg g) (hif:∀C fp s H,PIf3 (jQc X scope cl C fp s H) ifs tif) (he:∀C fp s H,PE3 (jQc X scope cl C fp s H) elt te)
  (hy:X.N[i]? =some y:=by rfl) (hx:X.env.scope.names.lookup y=some .local:=by rfl)
  (hsw:swapsWith (.ListComp elt [⟨tg,iter,ifs,0⟩] scope pos) (some (.Name y py)) spos.line X.env=pure true:=by rfl)
  (hs:∀x,foldedSetIterable iter X.env x=pure x:=by intro _;rfl):PS3 X (.Assign [.Name y py] (.ListComp elt [⟨tg,iter,ifs,0⟩] scope pos) spos) (tAsg (jKh mask wi g tif te) (jJd i)):=by
 intro pins s τ G H D I h
 rw[exec_Assign_Name_used _ _ _ _ hsw];refine wpAny_bind (wpAny_standAt (wpAny_bind ?_))
 show wpAny _ X.A (do let _ <-comprehension (.ListComp elt [⟨tg,iter,ifs,0⟩] scope pos) scope X.env _ (newList []) false (eval iter X.env) (some (assign (.Name y py) X.env))) _ _ s
 refine wpAny_bind (wpAny_mono (wpAny_comprehension_free (use:=some (assign (.Name y py) X.env)) (Q:=fun _ s'=>SP3 X pins H D .next s') rfl hs (jU7 ok.cl) ok.kind ok.nm
  (thn (hi pins s τ G H _ I h) fun xv s1 h1=>thn h1 fun itv s2 h2=> ?_)) (fun _ s' hq=>wpAny_pure (wpAny_pure hq)) fun _ _ e=>e)
 refine jXx (RR:=fun acc C=>compPost (model X.prog X.w) X.A X.xe (some (assign (.Name y py) X.env)) (fun _ s'=>SP3 X pins H D .next s') acc C) hc ok hgk hg hif he h2 ?_
 rintro Dd C s' m hn ⟨G1,H1,e1,hH1C,q1,hI⟩ ⟨oC,hoC,c1,c2,c3⟩ c4 c5 c6
 show wpAny _ X.A (assign (.Name y py) X.env (.ref Dd)) _ _ _
 obtain⟨σ1,I1,hs1,hg1⟩:=hI s'.heap (.refl ..)
 have I1':Inv X (pins++[(C,oC)]) σ1 H1 s':=I1.pins_of fun p hp=>(List.mem_append.mp hp).elim (fun z=>I1.pin p (List.mem_append_right _ z)) fun z=>by
  obtain rfl:p=(C,oC):=by simpa using z
  exact⟨hoC,hH1C,c1,c2,c3⟩
 refine wpAny_assign_Name (jK0 I1' hN hy (.inl hx) (v:= .ref Dd) rfl (fun s2 I2=> ?_) (.inr hx))
 have hC2:s2.heap.get? C=some oC:=(I2.pin (C,oC) (List.mem_append_right _ (List.mem_append_right _ (by simp)))).1
 obtain⟨oC',es,ep,hoC',r⟩:=hn
 have eo:oC'=oC:=by rw[hoC] at hoC';exact (Option.some.inj hoC').symm
 subst eo
 refine⟨m,⟨oC',es,ep,hC2,r⟩,fun h' hb=>⟨_,G1,H1,e1,⟨_,?_,hs1.set i (show Rep X.K H1 (.ref Dd) (.ref Dd) from rfl),hg1⟩,q1⟩⟩
 exact I2.unpinned.turned (t':=s2.toks) (fun b o hb' e=>(hb.2 b hb').trans e) hH1C c1 (.inr c6) c4 c5
end
end L3
namespace HT
open PySem PyProof.Rows
def lexLe:(xs ys:List Int)->Bool
 | [],_=>true
 | _::_,[]=>false
 | x::xs,y::ys=>if x=y then lexLe xs ys else decide (x<=y)
theorem lexLe_cons (x y:Int) (xs ys:List Int):lexLe (x::xs) (y::ys)=if x=y then lexLe xs ys else decide (x<=y):=rfl
theorem lexLe_nil (ys:List Int):lexLe [] ys=true:=by cases ys<;>rfl
theorem jXl (x:Int) (xs:List Int):lexLe (x::xs) []=false:=rfl
theorem kVh (A:Around) (s:Shared) (a:Int) (t:Tok) (c:Int) (u:Tok) (prog:Program) (w:World) (E:Value->Shared->Prop) (Q:Value->Shared->Prop) (h:Q (.bool (decide (a<=c))) s):
  wpAny (model prog w) A (richCompare .LtE (.int a t) (.int c u)) Q E s:=
 (PyProof.Rows.le_int h:wpAny (model prog w) A (compareOp .LtE (.int a t) (.int c u)) Q E s)
section
open PySem.SeqAt
open PySem.AutoSeq1 (wpAny_loadPart')
open PySem.MeetsSeq PySem.MeetsSeq2 PySem.MeetsSeq3
theorem jX1 (l b:Addr) (items items2:Array Value) (n n2:Nat) (dd dd2:Option Addr) (sl sl2:Array (Option Value)) (ns ms:List Int) (hi:IntsAre items.toList ns) (hj:IntsAre items2.toList ms):
  Meets (Builtin.«tuple.__le__» ⟨[.ref l,.ref b],[]⟩)
   (fun _ R s=>s.heap.get? l=some {cls:= .type "tuple",dict:=dd,data:= .seq items n,slots:=sl}/\s.heap.get? b=some {cls:= .type "tuple",dict:=dd2,data:= .seq items2 n2,slots:=sl2}/\
    R (.ok (.ret (.bool (lexLe ns ms)))) s):=
 .of_wp fun prog w A R s h=>by
  obtain⟨hp,g,d,tk,os⟩:=s;obtain⟨hl,hb,h⟩:=h
  have f2:=AutoSeq1.sub_tuple_tuple
  have z1:items.size=ns.length:=by rw[<-hi.length];simp
  have z2:items2.size=ms.length:=by rw[<-hj.length];simp
  wp_walk using wpAny_loadPart' hl,wpAny_loadPart' hb,wpAny_forIn_list _ (fun rest b s'=>b.1=none/\s'=⟨hp,g,d,tk,os⟩/\∃(vs ws:List Value) (ns' ms':List Int),rest=vs.zip ws/\
   IntsAre vs ns'/\IntsAre ws ms'/\ns'.length+items2.size=ms'.length+items.size/\R (.ok (.ret (.bool (lexLe ns' ms')))) ⟨hp,g,d,tk,os⟩) _
  case turn=>
   rintro⟨y,x⟩ rest b s' ⟨hb',rfl,vs,ws,ns',ms',hz,hvi,hwi,hlen,hR⟩
   cases hvi with
   | nil=>rw[List.zip_nil_left] at hz;cases hz
   | cons a t hvi'=>
    cases hwi with
    | nil=>rw[List.zip_nil_right] at hz;cases hz
    | cons c u hwi'=>
     rw[List.zip_cons_cons] at hz
     injection hz with hyx hrest
     injection hyx with hy hx
     subst hy hx
     rw[lexLe_cons] at hR
     simp only[List.length_cons] at hlen
     obtain⟨e,he,hiff⟩:=kXc A.in1 ⟨hp,g,d,tk,os⟩ a t c u
     refine wpAny_bind (he prog w _ _ ?_)
     cases e with
     | true=>
      rw[if_pos (hiff.mp rfl)] at hR
      wp_walk
      exact⟨rfl,rfl,_,_,_,_,hrest,hvi',hwi',by omega,hR⟩
     | false=>
      rw[if_neg (fun q=>absurd (hiff.mpr q) Bool.false_ne_true)] at hR
      have hri:=kVh A.in1 ⟨hp,g,d,tk,os⟩ a t c u prog w
      wp_walk using hri
      exact⟨_,rfl,by simpa using hR⟩
  case fin=>
   rintro⟨b1,b2⟩ s' ⟨hb',rfl,vs,ws,ns',ms',hz,hvi,hwi,hlen,hR⟩
   simp only at hb'
   subst hb'
   have hv:lexLe ns' ms'=decide (items.size<=items2.size):=by
    cases hvi with
    | nil=>
     simp only[List.length_nil] at hlen
     rw[lexLe_nil]
     exact (decide_eq_true (by omega)).symm
    | cons a t hv=>
     cases hwi with
     | nil=>
      simp only[List.length_nil,List.length_cons] at hlen
      rw[jXl]
      exact (decide_eq_false (by omega)).symm
     | cons c u hw=>
      rw[List.zip_cons_cons] at hz
      cases hz
   rw[hv] at hR
   wp_walk
   exact⟨_,rfl,by simpa[Builtin.Tuple.tupleCompareSizes] using hR⟩
  case h=>
   exact⟨rfl,rfl,items.toList,items2.toList,ns,ms,rfl,hi,hj,by omega,h⟩
end
theorem le_tupInts {prog:Program} {w:World} {A:Around} {E:Value->Shared->Prop} {s:Shared} {l b:Addr} {items items2:Array Value} {ns ms:List Int} {Q:Value->Shared->Prop} (hl:IsTup s.heap l items) (hb:IsTup s.heap b items2) (hi:IntsAre items.toList ns) (hj:IntsAre items2.toList ms)
  (hu:A.units<cLine) (h:Q (.bool (lexLe ns ms)) s):wpAny (model prog w) A (compareOp .LtE (.ref l) (.ref b)) Q E s:=by
 obtain⟨⟨cls,dd,data,sl⟩,ho,hc,n,hd⟩:=id hl
 obtain⟨⟨cls2,dd2,data2,sl2⟩,ho2,hc2,n2,hd2⟩:=id hb
 simp only at hc hd hc2 hd2
 subst hc hd hc2 hd2
 exact richCompare_meets_room (op:= .LtE) ⟨_,ho,rfl⟩ ⟨_,ho2,rfl⟩ PySem.F.slot_tuple_le PySem.F.entry_tuple_le (PySem.F.args_tuple_le_2 _ _) (jX1 l b items items2 n n2 dd dd2 sl sl2 ns ms hi hj)
  ⟨ho,ho2,show Value.bool (lexLe ns ms)≠Value.notImplemented/\Q (.bool (lexLe ns ms)) s from⟨(fun x=>nomatch x),h⟩⟩ hu
end HT
namespace L3
open PySem PySem.Spec PyProof.Rows L2
section
variable {X:Cx}
theorem jKv {K:PySem.W.Frag} {H:Hp}:∀ {ns:List Int} {vs:List V},Reps K H (ns.map T.int) vs->vs=ns.map V.int
 | [],_,h=>h
 | n::ns,_,⟨v,ws,e,r,rs⟩=>by
  subst e;cases (show v= .int n from r)
  rw[jKv rs];rfl
def rLeT:R3:=fun x y G Q=>∃ns ms,x= .tup (ns.map T.int)/\y= .tup (ms.map T.int)/\Q (.bl (HT.lexLe ns ms)) G
theorem o_leT (hu:X.A.units<cLine):Op3 X (compareOp .LtE) rLeT:=by
 rintro pins s τ G H x y v u Q ⟨σ,I,hs,hg⟩ ⟨a,ra,rv⟩ ⟨b,rb,ru⟩ ⟨ns,ms,ex,ey,q⟩
 subst ex;subst ey
 obtain⟨p,vs,e1,h1,h2⟩:=(show ∃p vs,a= .ref p/\H p=some (.tup vs)/\Reps X.K H (ns.map T.int) vs from ra)
 obtain⟨p',ws,e2,h3,h4⟩:=(show ∃p vs,b= .ref p/\H p=some (.tup vs)/\Reps X.K H (ms.map T.int) vs from rb)
 subst e1;subst e2
 cases rv;cases ru
 rw[jKv h2] at h1
 rw[jKv h4] at h3
 obtain⟨its,r1,p1,_⟩:=I.tuple (.of h1)
 obtain⟨its2,r2,p2,_⟩:=I.tuple (.of h3)
 exact HT.le_tupInts p1 p2 (show IntsAre its.toArray.toList ns from jXv r1) (show IntsAre its2.toArray.toList ms from jXv r2) hu ⟨.bl _,G,H,.refl H,⟨σ,I,hs,hg⟩,⟨.bl _,rfl,rfl⟩,q⟩
def rLeI:R3:=rI0 fun i j=> .bl (decide (i<=j))
def rLeA:R3:=fun x y G Q=>rLeI x y G Q\/rLeT x y G Q
theorem o_leA (hu:X.A.units+20<cLine):Op3 X (compareOp .LtE) rLeA:=o_le.or (o_leT (by omega))
theorem kUc {G:Gp} {x y:T} {b:Bool} (h:eqG G x y=some b):
  (∃p q xs ys,x= .ref p/\y= .ref q/\G p=some (.lst xs)/\G q=some (.lst ys)/\jXn xs=true/\jXn ys=true/\b=eqTs xs ys)\/(eqOk x=true/\eqOk y=true/\b=eqT x y):=by
 by_cases hr:∃p q,x= .ref p/\y= .ref q
 ·obtain⟨p,q,ex,ey⟩:=hr
  subst ex;subst ey
  refine .inl ?_
  simp only[eqG] at h
  split at h
  ·rename_i xs ys h1 h2
   split at h
   ·rename_i hc
    cases h
    exact⟨p,q,xs,ys,rfl,rfl,h1,h2,hc.1,hc.2,rfl⟩
   ·cases h
  ·cases h
 ·refine .inr ?_
  have e:eqG G x y=if eqOk x=true/\eqOk y=true then some (eqT x y) else none:=by
   cases x with
   | ref p=>cases y with
    | ref q=>exact absurd ⟨p,q,rfl,rfl⟩ hr
    | _=>rfl
   | _=>rfl
  rw[e] at h
  split at h
  ·rename_i hc
   cases h
   exact⟨hc.1,hc.2,rfl⟩
  ·cases h
mutual
theorem jZx {X:Cx} {pins:List (Addr×Obj)} {σ:L2.St} {H:Hp} {s:Shared} (I:Inv X pins σ H s):∀(x:T) {a:V} {u:Value},tree x=true->Rep X.K H x a->RelV a u->∃as,Reads s.heap u (td x) as
 | .non,a,u,_,r,q=>by cases (show a= .non from r);cases q;exact⟨_,.none⟩
 | .bl b,a,u,_,r,q=>by cases (show a= .bl b from r);cases q;exact⟨_,.bool b⟩
 | .int b,a,u,_,r,q=>by cases (show a= .int b from r);obtain⟨t,rfl⟩:=q;exact⟨_,.int b t⟩
 | .str b,a,u,_,r,q=>by cases (show a= .str b from r);obtain⟨t,rfl⟩:=q;exact⟨_,.str b t⟩
 | .tup xs,a,u,ht,r,q=>by
  obtain⟨p,vs,e1,h1,h2⟩:=(show ∃p vs,a= .ref p/\H p=some (.tup vs)/\Reps X.K H xs vs from r)
  subst e1;cases q
  obtain⟨its,rv,⟨o,ho,hc,n,hd⟩,_⟩:=I.tuple (.of h1)
  obtain⟨as,ra⟩:=jVo I xs (show jKj xs=true from ht) h2 rv
  exact⟨_,.tuple ho hc hd (by simpa using ra)⟩
 | .ref _,_,_,ht,_,_=>absurd (show false=true from ht) Bool.false_ne_true
 | .scr _,_,_,ht,_,_=>absurd (show false=true from ht) Bool.false_ne_true
 | .ty _,_,_,ht,_,_=>absurd (show false=true from ht) Bool.false_ne_true
theorem jVo {X:Cx} {pins:List (Addr×Obj)} {σ:L2.St} {H:Hp} {s:Shared} (I:Inv X pins σ H s):∀(xs:List T) {vs:List V} {us:List Value},jKj xs=true->Reps X.K H xs vs->Vals vs us->∃as,ReadsAll s.heap us (tds xs) as
 | [],_,_,_,r,q=>by cases r;cases q;exact⟨_,.nil⟩
 | x::xs,_,_,ht,⟨v,ws,e,r1,r2⟩,q=>by
  subst e
  cases q with
  | cons q1 q2=>
   have hx:tree x=true/\jKj xs=true:=by simpa[jKj] using ht
   obtain⟨as,ra⟩:=jZx I x hx.1 r1 q1
   obtain⟨bs,rb⟩:=jVo I xs hx.2 r2 q2
   exact⟨_,.cons ra rb⟩
end
mutual
theorem eqv_T:∀(x y:T),tree x=true->tree y=true->PyData.eqv (td x) (td y)=eqT x y
 | .non,y,_,hy=>by cases y<;>first | rfl | exact absurd (show false=true from hy) Bool.false_ne_true
 | .bl b,y,_,hy=>by cases y<;>first | rfl | exact absurd (show false=true from hy) Bool.false_ne_true
 | .int b,y,_,hy=>by cases y<;>first | rfl | exact absurd (show false=true from hy) Bool.false_ne_true
 | .str b,y,_,hy=>by cases y<;>first | rfl | exact absurd (show false=true from hy) Bool.false_ne_true
 | .tup xs,y,hx,hy=>by
  cases y with
  | tup ys=>exact kQ9 xs ys (show jKj xs=true from hx) (show jKj ys=true from hy)
  | _=>first | rfl | exact absurd (show false=true from hy) Bool.false_ne_true
 | .ref _,_,ht,_=>absurd (show false=true from ht) Bool.false_ne_true
 | .scr _,_,ht,_=>absurd (show false=true from ht) Bool.false_ne_true
 | .ty _,_,ht,_=>absurd (show false=true from ht) Bool.false_ne_true
theorem kQ9:∀(xs ys:List T),jKj xs=true->jKj ys=true->PyData.eqvAll (tds xs) (tds ys)=eqTs xs ys
 | [],[],_,_=>rfl
 | [],_::_,_,_=>rfl
 | _::_,[],_,_=>rfl
 | x::xs,y::ys,hx,hy=>by
  have hx':tree x=true/\jKj xs=true:=by simpa[jKj] using hx
  have hy':tree y=true/\jKj ys=true:=by simpa[jKj] using hy
  show (PyData.eqv (td x) (td y)&&PyData.eqvAll (tds xs) (tds ys))=(eqT x y&&eqTs xs ys)
  rw[eqv_T x y hx'.1 hy'.1,kQ9 xs ys hx'.2 hy'.2]
end
theorem kJz {pins:List (Addr×Obj)} {σ:L2.St} {H:Hp} {s:Shared} {G:Gp} {x y:T} {a b:V} {u v:Value} {k:Bool} (I:Inv X pins σ H s) (hg:GRel X.K H G) (ra:Rep X.K H x a) (rb:Rep X.K H y b) (ru:RelV a u) (rv:RelV b v) (h:eqG G x y=some k):
  ∃da db as bs,Reads s.heap u da as/\Reads s.heap v db bs/\da.canLay0=true/\db.canLay0=true/\da.depth<=50/\PyData.eqv da db=k:=by
 rcases kUc h with ⟨p,q,xs,ys,ex,ey,hp,hq,ox,oy,e⟩ | ⟨ox,oy,e⟩
 ·subst ex;subst ey
  cases (show a= .ref p from ra);cases (show b= .ref q from rb)
  cases ru;cases rv
  obtain⟨vs,h1,h2⟩:=hg.lst hp
  obtain⟨ws,h3,h4⟩:=hg.lst hq
  obtain⟨its,r1,⟨o,n,ho,hc,_,hd⟩,_⟩:=I.list (.of h1)
  obtain⟨its',r2,⟨o',n',ho',hc',_,hd'⟩,_⟩:=I.list (.of h3)
  simp only[jXn,Bool.and_eq_true,decide_eq_true_eq] at ox oy
  obtain⟨as,r3⟩:=jVo I xs ox.1.1 h2 r1
  obtain⟨bs,r4⟩:=jVo I ys oy.1.1 h4 r2
  exact⟨.list (tds xs),.list (tds ys),_,_,.list ho hc hd (by simpa using r3),.list ho' hc' hd' (by simpa using r4),ox.1.2,oy.1.2,ox.2,by rw[e];exact kQ9 xs ys ox.1.1 oy.1.1⟩
 ·simp only[eqOk,Bool.and_eq_true,decide_eq_true_eq] at ox oy
  obtain⟨as,r3⟩:=jZx I x ox.1.1 ra ru
  obtain⟨bs,r4⟩:=jZx I y oy.1.1 rb rv
  exact⟨td x,td y,_,_,r3,r4,ox.1.2,oy.1.2,ox.2,by rw[e];exact eqv_T x y ox.1.1 oy.1.1⟩
theorem jUd (hu:X.A.units+64<cLine):Op3 X (compareOp .Eq) rEqA:=by
 rintro pins s τ G H x y v u Q ⟨σ,I,hs,hg⟩ ⟨a,ra,rv⟩ ⟨b,rb,ru⟩ ⟨k,hk,q⟩
 obtain⟨da,db,as,bs,r1,r2,c1,c2,d,e⟩:=kJz I hg ra rb rv ru hk
 exact SeqAt.compareEq_reads r1 r2 c1 c2 (by omega) ⟨.bl k,G,H,.refl H,⟨σ,I,hs,hg⟩,⟨.bl k,rfl,by rw[e];rfl⟩,q⟩
theorem kYt (hu:X.A.units+64<cLine):Op3 X (compareOp .NotEq) rNeA:=by
 rintro pins s τ G H x y v u Q ⟨σ,I,hs,hg⟩ ⟨a,ra,rv⟩ ⟨b,rb,ru⟩ ⟨k,hk,q⟩
 obtain⟨da,db,as,bs,r1,r2,c1,c2,d,e⟩:=kJz I hg ra rb rv ru hk
 exact SeqAt.compareNe_reads r1 r2 c1 c2 (by omega) ⟨.bl (!k),G,H,.refl H,⟨σ,I,hs,hg⟩,⟨.bl (!k),rfl,by rw[e];rfl⟩,q⟩
end
section
variable {X:Cx}
def jUi:T->Bool
 | .non=>true
 | .bl _=>true
 | .int _=>true
 | .str _=>true
 | _=>false
theorem jVr {K:PySem.W.Frag} {H:Hp} {x:T} {a:V} (r:Rep K H x a) (f:jUi x=true):jXm a=true:=by
 cases x with
 | non=>cases (show a= .non from r);rfl
 | bl _=>cases (show a= .bl _ from r);rfl
 | int _=>cases (show a= .int _ from r);rfl
 | str _=>cases (show a= .str _ from r);rfl
 | _=>exact absurd (show false=true from f) Bool.false_ne_true
theorem kQ7 {K:PySem.W.Frag} {H:Hp} {x y:T} {a b:V} (r:Rep K H x a) (q:Rep K H y b) (f:jUi x=true) (g:jUi y=true):eqV a b=eqT x y:=by
 cases x with
 | non=>cases (show a= .non from r);cases y with
  | non=>cases (show b= .non from q);rfl
  | bl _=>cases (show b= .bl _ from q);rfl
  | int _=>cases (show b= .int _ from q);rfl
  | str _=>cases (show b= .str _ from q);rfl
  | _=>exact absurd (show false=true from g) Bool.false_ne_true
 | bl _=>cases (show a= .bl _ from r);cases y with
  | non=>cases (show b= .non from q);rfl
  | bl _=>cases (show b= .bl _ from q);rfl
  | int _=>cases (show b= .int _ from q);rfl
  | str _=>cases (show b= .str _ from q);rfl
  | _=>exact absurd (show false=true from g) Bool.false_ne_true
 | int _=>cases (show a= .int _ from r);cases y with
  | non=>cases (show b= .non from q);rfl
  | bl _=>cases (show b= .bl _ from q);rfl
  | int _=>cases (show b= .int _ from q);rfl
  | str _=>cases (show b= .str _ from q);rfl
  | _=>exact absurd (show false=true from g) Bool.false_ne_true
 | str _=>cases (show a= .str _ from r);cases y with
  | non=>cases (show b= .non from q);rfl
  | bl _=>cases (show b= .bl _ from q);rfl
  | int _=>cases (show b= .int _ from q);rfl
  | str _=>cases (show b= .str _ from q);rfl
  | _=>exact absurd (show false=true from g) Bool.false_ne_true
 | _=>exact absurd (show false=true from f) Bool.false_ne_true
def inT (x:T) (xs:List T):Bool:=xs.any fun y=>eqT y x
theorem jYn {K:PySem.W.Frag} {H:Hp} {x:T} {a:V} (r:Rep K H x a) (f:jUi x=true):∀ {xs:List T} {vs:List V},Reps K H xs vs->xs.all jUi=true->vs.all jXm=true/\inV a vs=inT x xs
 | [],_,h,_=>by cases h;exact⟨rfl,rfl⟩
 | y::ys,_,⟨v,ws,e,r1,r2⟩,g=>by
  subst e
  rw[List.all_cons,Bool.and_eq_true] at g
  obtain⟨h1,h2⟩:=jYn r f r2 g.2
  refine⟨by rw[List.all_cons,jVr r1 g.1,h1];rfl,?_⟩
  unfold inV inT at h2 ⊢
  rw[List.any_cons,List.any_cons,kQ7 r1 r g.1 f,h2]
def rInF (neg:Bool):R3:=fun x y G Q=>∃xs,seqT G y=some xs/\jUi x=true/\xs.all jUi=true/\Q (.bl (if neg then !inT x xs else inT x xs)) G
theorem kY9 {neg:Bool} {op:CmpOp} (h:OpR X (compareOp op) (L2.rIn X.K neg)):Op3 X (compareOp op) (rInF neg):=
 Op3.of h fun H G x y a b Q hg ra rb ⟨xs,hx,fx,fs,q⟩=>by
  obtain⟨p,vs,e,hq,r⟩:=jQq hg rb hx
  obtain⟨h1,h2⟩:=jYn ra fx r fs
  exact⟨p,vs,e,hq,jVr ra fx,h1,.bl _,G,.refl H,hg,by rw[h2];rfl,q⟩
theorem o_notInF:Op3 X (compareOp .NotIn) (rInF true):=kY9 jY2
def jU0:T->Option Key
 | .int i=>some (.inl i)
 | .str x=>some (.inr x)
 | _=>none
def allK {K:Type} (f:T->Option K):List T->Option (List K)
 | []=>some []
 | x::xs=>match f x,allK f xs with
  | some k,some ks=>some (k::ks)
  | _,_=>none
def key1:T->Option K1
 | .tup ts=>(allK jU0 ts).map .inr
 | x=>(jU0 x).map .inl
def key2:T->Option K2
 | .tup ts=>(allK key1 ts).map .inr
 | x=>(jU0 x).map .inl
def jVd:List T->Option TKey:=allK key2
theorem jUg {K:PySem.W.Frag} {H:Hp} {x:T} {a:V} {k:Key} (h:jU0 x=some k) (r:Rep K H x a):a=kV k:=by
 cases x with
 | int i=>cases h;exact r
 | str i=>cases h;exact r
 | non=>cases h
 | bl _=>cases h
 | tup _=>cases h
 | scr _=>cases h
 | ref _=>cases h
 | ty _=>cases h
theorem jVt {K:PySem.W.Frag} {H:Hp} {κ:Type} {f:T->Option κ} {R:κ->V->Prop} (hf:∀x k a,f x=some k->Rep K H x a->R k a):∀ {xs:List T} {vs:List V} {ks:List κ},allK f xs=some ks->Reps K H xs vs->Paired R ks vs
 | [],_,_,h,r=>by cases h;cases (show _=[] from r);exact .nil
 | x::xs,_,ks,h,⟨v,ws,e,r1,r2⟩=>by
  subst e
  unfold allK at h
  cases e1:f x with
  | none=>rw[e1] at h;cases h
  | some k=>
   cases e2:allK f xs with
   | none=>rw[e1,e2] at h;cases h
   | some ks'=>
    rw[e1,e2] at h;cases h
    exact .cons (hf _ _ _ e1 r1) (jVt hf e2 r2)
theorem kV5 {K:PySem.W.Frag} {H:Hp} (x:T) (k:K1) (a:V) (h:key1 x=some k) (r:Rep K H x a):Rk1 H k a:=by
 cases x with
 | tup ts=>
  obtain⟨ks,h1,rfl⟩:=Option.map_eq_some_iff.mp (show (allK jU0 ts).map Sum.inr=some k from h)
  obtain⟨p,vs,e,h3,h4⟩:=(show ∃p vs,a= .ref p/\H p=some (.tup vs)/\Reps K H ts vs from r)
  exact⟨p,vs,e,h3,jVt (fun x k a h r=>jUg h r) h1 h4⟩
 | int i=>cases h;exact r
 | str i=>cases h;exact r
 | non=>cases h
 | bl _=>cases h
 | scr _=>cases h
 | ref _=>cases h
 | ty _=>cases h
theorem kV4 {K:PySem.W.Frag} {H:Hp} (x:T) (k:K2) (a:V) (h:key2 x=some k) (r:Rep K H x a):Rk2 H k a:=by
 cases x with
 | tup ts=>
  obtain⟨ks,h1,rfl⟩:=Option.map_eq_some_iff.mp (show (allK key1 ts).map Sum.inr=some k from h)
  obtain⟨p,vs,e,h3,h4⟩:=(show ∃p vs,a= .ref p/\H p=some (.tup vs)/\Reps K H ts vs from r)
  exact⟨p,vs,e,h3,jVt kV5 h1 h4⟩
 | int i=>cases h;exact r
 | str i=>cases h;exact r
 | non=>cases h
 | bl _=>cases h
 | scr _=>cases h
 | ref _=>cases h
 | ty _=>cases h
theorem jUz {K:PySem.W.Frag} {H:Hp} {xs:List T} {vs:List V} {ks:TKey} {p:Addr} (h:jVd xs=some ks) (e:H p=some (.tup vs)) (r:Reps K H xs vs):TKeyAt H ks p:=⟨vs,e,jVt kV4 h r⟩
def valT {κ:Type} [DecidableEq κ] (kvs:List (κ×T)) (k:κ):Option T:=(kvs.find? fun kv=>decide (kv.1=k)).map (·.2)
noncomputable def putT {κ:Type} [DecidableEq κ] (kvs:List (κ×T)) (k:κ) (v:T):List (κ×T):=
 if (kvs.any fun kv=>decide (kv.1=k))=true then kvs.map (fun kv=>if kv.1=k then (kv.1,v) else kv) else kvs++[(k,v)]
theorem PKV.val {κ:Type} [DecidableEq κ] {K:PySem.W.Frag} {H:Hp} {kvs:List (κ×T)} {ws:List (κ×V)} (r:PKV K H kvs ws) (k:κ):(∀t,valT kvs k=some t->∃v,valV ws k=some v/\Rep K H t v)/\(valT kvs k).isSome=(valV ws k).isSome:=by
 unfold PKV at r
 induction r with
 | nil=>exact⟨fun t h=>by simp[valT] at h,rfl⟩
 | @cons p q ps qs h t ih=>
  by_cases e:p.1=k
  ·have e':q.1=k:=h.1.symm.trans e
   have b:valT (p::ps) k=some p.2:=by simp[valT,List.find?_cons,e]
   rw[b,jVj e']
   exact⟨fun t ht=>by cases ht;exact⟨q.2,rfl,h.2⟩,rfl⟩
  ·have e':¬ q.1=k:=fun z=>e (h.1.trans z)
   have b:valT (p::ps) k=valT ps k:=by simp[valT,List.find?_cons,e]
   rw[b,jVk e']
   exact ih
theorem PKV.any {κ:Type} [DecidableEq κ] {K:PySem.W.Frag} {H:Hp} {kvs:List (κ×T)} {ws:List (κ×V)} (r:PKV K H kvs ws) (k:κ):(kvs.any fun kv=>decide (kv.1=k))=ws.any fun kv=>decide (kv.1=k):=by
 unfold PKV at r
 induction r with
 | nil=>rfl
 | cons h t ih=>rw[List.any_cons,List.any_cons,ih,h.1]
theorem PKV.put {κ:Type} [DecidableEq κ] {K:PySem.W.Frag} {H:Hp} {kvs:List (κ×T)} {ws:List (κ×V)} (r:PKV K H kvs ws) (k:κ) {t:T} {v:V} (rt:Rep K H t v):PKV K H (putT kvs k t) (putK ws k v):=by
 unfold putT putK
 rw[r.any k]
 by_cases e:(ws.any fun kv=>decide (kv.1=k))=true
 ·rw[if_pos e,if_pos e]
  unfold PKV at r ⊢
  clear e
  induction r with
  | nil=>exact .nil
  | @cons p q ps qs h t' ih=>
   rw[List.map_cons,List.map_cons]
   refine .cons ?_ ih
   obtain⟨h1,h2⟩:=h
   by_cases e:p.1=k
   ·rw[if_pos e,if_pos (h1.symm.trans e)];exact⟨h1,rt⟩
   ·rw[if_neg e,if_neg (fun z=>e (h1.trans z))];exact⟨h1,h2⟩
 ·rw[if_neg e,if_neg e];exact Paired.snoc r ⟨rfl,rt⟩
theorem PKV.length {κ:Type} {K:PySem.W.Frag} {H:Hp} {kvs:List (κ×T)} {ws:List (κ×V)} (r:PKV K H kvs ws):kvs.length=ws.length:=Paired.length r
noncomputable def dAt (G:Gp) (x y:T):Option (Option T):=match x with
 | .ref p=>match G p with
  | some (.dct kvs)=>match y with
   | .tup ys=>match jVd ys with
    | some ks=>some (valT kvs ks)
    | none=>none
   | _=>none
  | some (.dck kvs)=>match jU0 y with
   | some k=>some (valT kvs k)
   | none=>none
  | some (.fdc kvs)=>match y with
   | .tup ys=>match jVd ys with
    | some ks=>some (valT kvs ks)
    | none=>none
   | _=>none
  | _=>none
 | _=>none
theorem kUi {K:PySem.W.Frag} {H:Hp} {G:Gp} {x y:T} {a b:V} {o:Option T} (hg:GRel K H G) (ra:Rep K H x a) (rb:Rep K H y b) (h:dAt G x y=some o):
  ∃p ov,a= .ref p/\DGet H p b ov/\o.isSome=ov.isSome/\∀t,o=some t->∃v,ov=some v/\Rep K H t v:=by
 unfold dAt at h
 split at h
 ·rename_i p
  cases (show a= .ref p from ra)
  split at h
  ·rename_i kvs hG
   split at h
   ·rename_i ys
    split at h
    ·rename_i ks hk
     cases h
     obtain⟨ws,h1,h2⟩:=hg p _ hG
     obtain⟨q,vs,e,h3,h4⟩:=(show ∃q vs,b= .ref q/\H q=some (.tup vs)/\Reps K H ys vs from rb)
     subst e
     exact⟨p,_,rfl,DGet.t h1 (jUz hk h3 h4),(h2.val ks).2,(h2.val ks).1⟩
    ·cases h
   ·cases h
  ·rename_i kvs hG
   split at h
   ·rename_i k hk
    cases h
    obtain⟨ws,h1,h2⟩:=hg p _ hG
    rw[jUg hk rb]
    exact⟨p,_,rfl,DGet.k h1,(h2.val k).2,(h2.val k).1⟩
   ·cases h
  ·rename_i kvs hG
   split at h
   ·rename_i ys
    split at h
    ·rename_i ks hk
     cases h
     obtain⟨ob,ws,h1,h2⟩:=(show ∃ob ws,H p=some (.frz ob (.dT ws))/\PKV K H kvs ws from hg p _ hG)
     obtain⟨q,vs,e,h3,h4⟩:=(show ∃q vs,b= .ref q/\H q=some (.tup vs)/\Reps K H ys vs from rb)
     subst e
     exact⟨p,_,rfl,.inr ⟨ws,ks,q,.inr ⟨ob,h1⟩,rfl,jUz hk h3 h4,rfl⟩,(h2.val ks).2,(h2.val ks).1⟩
    ·cases h
   ·cases h
  ·cases h
 ·cases h
def rDGet:R3:=fun x y G Q=>∃t,dAt G x y=some (some t)/\Q t G
theorem kY1 (hu:X.A.units+20<cLine):Ix3 X rDGet:=by
 rintro value slice pins s τ G H x y v u Q ⟨σ,I,hs,hg⟩ ⟨a,ra,rv⟩ ⟨b,rb,ru⟩ ⟨t,hd,q⟩ hsl
 obtain⟨p,ov,e,g,_,hh⟩:=kUi hg ra rb hd
 obtain⟨w,ew,rw'⟩:=hh t rfl
 subst e;subst ew
 cases rv
 have hT:s.TypeIs (.ref p) "dict":=kJa I g
 unfold subscriptTail
 refine wpAny_bind ?_
 rw[getitemInPython_of_ne hT.not_modules]
 refine wpAny_bind (wpAny_specialOf hT PySem.F.slot_dict_getitem.lookup ?_)
 have fin:wpAny (model X.prog X.w) X.A (subscripted slice false (.ref p) u) (fun r s₃=>wpAny (model X.prog X.w) X.A (letTemporaryGo value (.ref p) r >>= fun _=>pure r) (EP3 X pins τ H Q) X.xe s₃) X.xe s:=by
  rw[hsl]
  exact wpAny_operating (kUh hu I g ru fun w' s' I' r'=>wpAny_bind (wpAny_letTemporaryGo (wpAny_pure ⟨t,G,H,.refl H,⟨σ,I',hs,hg⟩,⟨w,rw',r'⟩,q⟩)))
 first
  | exact wpAny_pure (wpAny_bind fin)
  | exact wpAny_bind (wpAny_pure (wpAny_bind fin))
  | exact wpAny_bind fin
theorem Ix3.or {r r':R3} (h:Ix3 X r) (h':Ix3 X r'):Ix3 X (fun x y G Q=>r x y G Q\/r' x y G Q):=by
 intro value slice pins s τ G H x y v u Q I rx ry q hs
 rcases q with q | q
 ·exact h value slice pins s τ G H x y v u Q I rx ry q hs
 ·exact h' value slice pins s τ G H x y v u Q I rx ry q hs
def rIxA:R3:=fun x y G Q=>rIx x y G Q\/rDGet x y G Q
theorem kY2 (hu:X.A.units+20<cLine):Ix3 X rIxA:=ix_any.or (kY1 hu)
def kQh:R3:=fun x y G Q=>∃o,dAt G y x=some o/\Q (.bl (!o.isSome)) G
theorem kVs (hu:X.A.units+20<cLine):Op3 X (compareOp .NotIn) kQh:=by
 rintro pins s τ G H x y v u Q ⟨σ,I,hs,hg⟩ ⟨a,ra,rv⟩ ⟨b,rb,ru⟩ ⟨o,hd,q⟩
 obtain⟨p,ov,e,g,e2,_⟩:=kUi hg rb ra hd
 subst e;cases ru
 exact kZl hu I g rv fun s' I'=>⟨.bl _,G,H,.refl H,⟨σ,I',hs,hg⟩,⟨.bl _,rfl,by rw[<-e2];rfl⟩,q⟩
def kQe:R3:=fun x y G Q=>rInF true x y G Q\/kQh x y G Q
theorem kYs (hu:X.A.units+20<cLine):Op3 X (compareOp .NotIn) kQe:=o_notInF.or (kVs hu)
def jKt:TE3:=fun _ G Q=>(∀p,G p=none->Q (.ref p) (gup G p (.dct [])))\/∀p,G p=none->Q (.ref p) (gup G p (.dck []))
theorem kZh {pos:Pos}:PE3 X (.Dict [] [] pos) jKt:=by
 rintro pins s τ G H Q ⟨σ,I,hs,hg⟩ h
 rcases h with h | h
 ·exact thn (kVo pins s σ H (up X.K H Q) I fun p hp=>⟨.ref p,_,.upd (.none hp),hg.upd (.none hp) (go:= .dct []) ⟨[],jJ1,.nil⟩,rfl,h p (hg.fresh hp)⟩) fun u s' z=>jQt hs z
 ·exact thn (kVp pins s σ H (up X.K H Q) I fun p hp=>⟨.ref p,_,.upd (.none hp),hg.upd (.none hp) (go:= .dck []) ⟨[],jJ1,.nil⟩,rfl,h p (hg.fresh hp)⟩) fun u s' z=>jQt hs z
noncomputable def kXr:T->T->T->Gp->(Gp->Prop)->Prop:=fun o i v G Q=>∃p ys ks kvs,o= .ref p/\i= .tup ys/\jVd ys=some ks/\G p=some (.dct kvs)/\kvs.length<sizeLine/\Q (gup G p (.dct (putT kvs ks v)))
def kXs:T->T->T->Gp->(Gp->Prop)->Prop:=fun o i v G Q=>∃p k kvs,o= .ref p/\jU0 i=some k/\G p=some (.dck kvs)/\kvs.length<sizeLine/\Q (gup G p (.dck (putT kvs k v)))
theorem kYd (hu:X.A.units+20<cLine):Set3 X kXr:=by
 rintro pins s τ G H o i v ov iv u Q ⟨σ,I,hs,hg⟩ ⟨a,ra,rv⟩ ⟨b,rb,ru⟩ ⟨c,rc,rw'⟩ ⟨p,ys,ks,kvs,eo,ei,hk,hG,hz,q⟩
 subst eo;subst ei
 cases (show a= .ref p from ra);cases rv
 obtain⟨ws,h1,h2⟩:=hg p _ hG
 obtain⟨b',vs,e,h3,h4⟩:=(show ∃q vs,b= .ref q/\H q=some (.tup vs)/\Reps X.K H ys vs from rb)
 subst e
 have h3:=jUz hk h3 h4
 have e:Ext H (upd H p (.dT (putK ws ks c))):= .upd (.dT h1)
 exact jZe hu I (DPut.t h1 h3 (by rw[<-h2.length];exact hz)) ru rw' fun s' I'=>⟨_,_,e,⟨σ,I',hs.mono e,hg.upd (.dT h1) (go:= .dct (putT kvs ks v)) ⟨_,jJ1,(h2.put ks rc).mono e⟩⟩,q⟩
theorem kYe (hu:X.A.units+20<cLine):Set3 X kXs:=by
 rintro pins s τ G H o i v ov iv u Q ⟨σ,I,hs,hg⟩ ⟨a,ra,rv⟩ ⟨b,rb,ru⟩ ⟨c,rc,rw'⟩ ⟨p,k,kvs,eo,hk,hG,hz,q⟩
 subst eo
 cases (show a= .ref p from ra);cases rv
 obtain⟨ws,h1,h2⟩:=hg p _ hG
 have eb:=jUg hk rb
 subst eb
 have e:Ext H (upd H p (.dK (putK ws k c))):= .upd (.dK h1)
 exact jZe hu I (DPut.k h1 (by rw[<-h2.length];exact hz)) ru rw' fun s' I'=>⟨_,_,e,⟨σ,I',hs.mono e,hg.upd (.dK h1) (go:= .dck (putT kvs k v)) ⟨_,jJ1,(h2.put k rc).mono e⟩⟩,q⟩
theorem Set3.or {r r':T->T->T->Gp->(Gp->Prop)->Prop} (h:Set3 X r) (h':Set3 X r'):Set3 X (fun o i v G Q=>r o i v G Q\/r' o i v G Q):=by
 intro pins s τ G H o i v ov iv u Q I ro ri rv q
 rcases q with q | q
 ·exact h pins s τ G H o i v ov iv u Q I ro ri rv q
 ·exact h' pins s τ G H o i v ov iv u Q I ro ri rv q
def rSetA:T->T->T->Gp->(Gp->Prop)->Prop:=fun o i v G Q=>kVj o i v G Q\/kXr o i v G Q\/kXs o i v G Q
theorem s_any (hu:X.A.units+20<cLine):Set3 X rSetA:=s_list.or ((kYd hu).or (kYe hu))
end
noncomputable def jYv (G:Gp):T->Option String
 | .non=>some "NoneType"
 | .bl _=>some "bool"
 | .int _=>some "int"
 | .str _=>some "str"
 | .tup _=>some "tuple"
 | .scr _=>some "list"
 | .ref p=>match G p with
  | some (.lst _)=>some "list"
  | some (.dct _)=>some "dict"
  | some (.dck _)=>some "dict"
  | some (.fdc _)=>none
  | some (.ins _ _)=>none
  | some (.exc _)=>none
  | none=>none
 | .ty _=>none
def subT (t n:String):Option Bool:=
 if n="bool"\/n="int"\/n="str"\/n="list"\/n="tuple" then some (t == n||(t == "bool"&&n == "int")) else none
theorem kV3 (K:PySem.W.Frag) {n:String} {b:Bool} (h:subT "bool" n=some b):PySem.W.kitOne K (.type "bool") (.type n)=some b:=by
 unfold subT at h
 split at h
 ·rename_i hn
  rcases hn with rfl | rfl | rfl | rfl | rfl<;>(cases h;kernel_rfl)
 ·cases h
theorem kV2 (K:PySem.W.Frag) {n:String} {b:Bool} (h:subT "NoneType" n=some b):PySem.W.kitOne K (.type "NoneType") (.type n)=some b:=by
 unfold subT at h
 split at h
 ·rename_i hn
  rcases hn with rfl | rfl | rfl | rfl | rfl<;>(cases h;kernel_rfl)
 ·cases h
theorem kY0 (K:PySem.W.Frag) {n:String} {b:Bool} (h:subT "int" n=some b):PySem.W.kitOne K (.type "int") (.type n)=some b:=by
 unfold subT at h
 split at h
 ·rename_i hn
  rcases hn with rfl | rfl | rfl | rfl | rfl<;>(cases h;kernel_rfl)
 ·cases h
theorem kYz (K:PySem.W.Frag) {n:String} {b:Bool} (h:subT "str" n=some b):PySem.W.kitOne K (.type "str") (.type n)=some b:=by
 unfold subT at h
 split at h
 ·rename_i hn
  rcases hn with rfl | rfl | rfl | rfl | rfl<;>(cases h;kernel_rfl)
 ·cases h
theorem kQu (K:PySem.W.Frag) {n:String} {b:Bool} (h:subT "tuple" n=some b):PySem.W.kitOne K (.type "tuple") (.type n)=some b:=by
 unfold subT at h
 split at h
 ·rename_i hn
  rcases hn with rfl | rfl | rfl | rfl | rfl<;>(cases h;kernel_rfl)
 ·cases h
theorem kJt (K:PySem.W.Frag) {n:String} {b:Bool} (h:subT "list" n=some b):PySem.W.kitOne K (.type "list") (.type n)=some b:=by
 unfold subT at h
 split at h
 ·rename_i hn
  rcases hn with rfl | rfl | rfl | rfl | rfl<;>(cases h;kernel_rfl)
 ·cases h
theorem kJu (K:PySem.W.Frag) {n:String} {b:Bool} (h:subT "dict" n=some b):PySem.W.kitOne K (.type "dict") (.type n)=some b:=by
 unfold subT at h
 split at h
 ·rename_i hn
  rcases hn with rfl | rfl | rfl | rfl | rfl<;>(cases h;kernel_rfl)
 ·cases h
section
variable {X:Cx}
theorem e_ty {x:Str} {n:String} {pos:Pos} (hg:Gl X x) (hm:X.mg x=none) (hv:bootBuiltins x=some (.type n)) (hn:x≠"__name__":=by decide) (hd:(x == ("__debug__":Str))=false:=by decide):PE3 X (.Name x pos) (tC (.ty n)):=
 fun pins s τ G H Q ⟨σ,I,hs,hg'⟩ q=>thn (kYl (v:= .ty n) hg hm hv rfl hn hd pins s σ H (up X.K H Q) I ⟨.ty n,G,.refl H,hg',rfl,q⟩) fun u s' h=>jQt hs h
def kitT (t:String):List T->Option Bool
 | []=>some false
 | .ty n::r=>match subT t n with
  | some true=>some true
  | some false=>kitT t r
  | none=>none
 | _::_=>none
def isiC:Option String->T->Option Bool
 | some t,.ty n=>subT t n
 | some t,.tup cs=>kitT t cs
 | _,_=>none
def isiT (G:Gp) (x c:T):Option Bool:=isiC (jYv G x) c
def rIsi:List T->Gp->VK3->Prop:=fun xs G Q=>∃x c b,xs=[x,c]/\isiT G x c=some b/\Q (.bl b) G
theorem kQv {K:PySem.W.Frag} {H:Hp} {t:String} (ok:∀n b,subT t n=some b->PySem.W.kitOne K (.type t) (.type n)=some b):∀ {cs:List T} {vs:List V} {us:List Value} {b:Bool},Reps K H cs vs->Vals vs us->kitT t cs=some b->PySem.W.kitAny K (.type t) us=some b
 | [],_,_,_,r,q,h=>by cases r;cases q;exact h
 | c::cs,_,_,b,⟨v,ws,e,r1,r2⟩,q,h=>by
  subst e
  cases q with
  | cons q1 q2=>
   cases c with
   | ty n=>
    cases (show v= .ty n from r1)
    cases q1
    unfold kitT at h
    unfold PySem.W.kitAny
    cases e:subT t n with
    | none=>rw[e] at h;cases h
    | some k=>
     rw[e] at h
     rw[ok n k e]
     cases k with
     | true=>exact h
     | false=>exact kQv ok r2 q2 h
   | _=>cases h
theorem jKo {pins:List (Addr×Obj)} {τ:St3} {G:Gp} {H:Hp} {s:Shared} {σ:L2.St} {c:T} {cv:V} {u cu:Value} {t:String} {b:Bool} {Q:VK3} {Hh:Heap->Prop} (I:Inv X pins σ H s) (hs:SRel X.K H σ τ) (hg:GRel X.K H G)
  (Z:PySem.W.KitX X.K u (.type t) Hh) (p:Hh s.heap) (hx:u≠ .builtin "__main__.__loader__#opaque") (ok:∀n b,subT t n=some b->PySem.W.kitOne X.K (.type t) (.type n)=some b)
  (rc:Rep X.K H c cv) (ru:RelV cv cu) (h:isiC (some t) c=some b) (q:Q (.bl b) G):
  wpAny (model X.prog X.w) X.A (call (.builtin "isinstance") [u,cu]) (EP3 X pins τ H Q) X.xe s:=by
 have fin:∀tk,EP3 X pins τ H Q (.bool b) {s with toks:=tk}:=fun tk=>⟨.bl b,G,H,.refl H,⟨σ,I.tok tk,hs,hg⟩,⟨.bl b,rfl,rfl⟩,q⟩
 cases c with
 | ty n=>
  cases (show cv= .ty n from rc);cases ru
  exact PySem.W.kia_one Z I.kIn p (ok n b h) hx fin
 | tup cs=>
  obtain⟨pp,vs,e,h1,h2⟩:=(show ∃p vs,cv= .ref p/\H p=some (.tup vs)/\Reps X.K H cs vs from rc)
  subst e;cases ru
  obtain⟨its,rv,⟨⟨cls,dd,data,sl⟩,ho,hc,n,hd⟩,_⟩:=I.tuple (.of h1)
  simp only at hc hd
  subst hc hd
  exact PySem.W.kia_tup Z I.kIn p ho (kQv ok h2 rv h) hx fin
 | _=>cases h
theorem kJe:Call3 X (.builtin "isinstance") rIsi:=by
 rintro pins s τ G H xs us Q ⟨σ,I,hs,hg⟩ ⟨as,ras,rvs⟩ ⟨x,c,b,e,h,q⟩
 subst e
 obtain⟨a,cv,rfl,ra,rc⟩:=kKb ras
 obtain⟨u,cu,rfl,ru,rcu⟩:=rvs.two
 unfold isiT at h
 cases x with
 | non=>cases (show a= .non from ra);cases ru;exact jKo I hs hg PySem.W.kitx_none True.intro (fun z=>nomatch z) (fun n b=>kV2 _) rc rcu h q
 | bl k=>cases (show a= .bl k from ra);cases ru;exact jKo I hs hg PySem.W.kitx_bool True.intro (fun z=>nomatch z) (fun n b=>kV3 _) rc rcu h q
 | int k=>cases (show a= .int k from ra);obtain⟨t,rfl⟩:=ru;exact jKo I hs hg PySem.W.kitx_int True.intro (fun z=>nomatch z) (fun n b=>kY0 _) rc rcu h q
 | str k=>cases (show a= .str k from ra);obtain⟨t,rfl⟩:=ru;exact jKo I hs hg PySem.W.kitx_str True.intro (fun z=>nomatch z) (fun n b=>kYz _) rc rcu h q
 | tup ys=>
  obtain⟨p,vs,e,h1,h2⟩:=(show ∃p vs,a= .ref p/\H p=some (.tup vs)/\Reps X.K H ys vs from ra)
  subst e;cases ru
  obtain⟨its,rv,⟨o,ho,hc,_⟩,_⟩:=I.tuple (.of h1)
  exact jKo I hs hg PySem.W.kitx_tuple ⟨o,ho,hc⟩ (fun z=>nomatch z) (fun n b=>kQu _) rc rcu h q
 | scr ys=>
  obtain⟨p,vs,e,h1,h2⟩:=(show ∃p vs,a= .ref p/\FrL X.K H p vs/\Reps X.K H ys vs from ra)
  subst e;cases ru
  obtain⟨its,rv,⟨o,n,ho,hc,_⟩,_⟩:=I.list h1.sq
  exact jKo I hs hg PySem.W.kitx_list ⟨o,ho,hc⟩ (fun z=>nomatch z) (fun n b=>kJt _) rc rcu h q
 | ref p=>
  cases (show a= .ref p from ra);cases ru
  cases hG:G p with
  | none=>simp only[jYv,hG] at h;cases h
  | some g=>
   cases g with
   | lst ys=>
    simp only[jYv,hG] at h
    obtain⟨vs,h1,h2⟩:=hg.lst hG
    obtain⟨its,rv,⟨o,n,ho,hc,_⟩,_⟩:=I.list (.of h1)
    exact jKo I hs hg PySem.W.kitx_list ⟨o,ho,hc⟩ (fun z=>nomatch z) (fun n b=>kJt _) rc rcu h q
   | fdc kvs=>simp only[jYv,hG] at h;cases h
   | ins _ _=>simp only[jYv,hG] at h;cases h
   | exc _=>simp only[jYv,hG] at h;cases h
   | dct kvs=>
    simp only[jYv,hG] at h
    obtain⟨ws,h1,_⟩:=hg p _ hG
    obtain⟨_,_,xs,_,o,es,ep,h3,h4,_⟩:=(show ObjOk X.prog X.w H s.heap p (.dT ws) from I.hok p _ h1)
    exact jKo I hs hg PySem.W.kitx_dict ⟨o,h3,h4.1⟩ (fun z=>nomatch z) (fun n b=>kJu _) rc rcu h q
   | dck kvs=>
    simp only[jYv,hG] at h
    obtain⟨ws,h1,_⟩:=hg p _ hG
    obtain⟨_,_,vs,_,pp⟩:=(show ObjOk X.prog X.w H s.heap p (.dK ws) from I.hok p _ h1)
    obtain⟨o,es,ep,h3,h4,_⟩:=pp
    exact jKo I hs hg PySem.W.kitx_dict ⟨o,h3,h4.1⟩ (fun z=>nomatch z) (fun n b=>kJu _) rc rcu h q
 | ty _=>cases h
abbrev TO3:=St3->Gp->(Option Int->Gp->Prop)->Prop
noncomputable def PO3 (X:Cx) (e:Option Expr) (t:TO3):Prop:=
 ∀(pins:List (Addr×Obj)) (s:Shared) (τ:St3) (G:Gp) (H:Hp) (Q:Option Int->Gp->Prop),Inv3 X pins τ G H s->t τ G Q->
  wpAny (model X.prog X.w) X.A (evalPart e X.env) (fun u s'=>∃o G' H',Ext H H'/\Inv3 X pins τ G' H' s'/\IsPart u o/\Q o G') X.xe s
def jUp:TO3:=fun _ G Q=>Q none G
def jVx (t:TE3):TO3:=fun τ G Q=>t τ G fun x G1=>∃i,x= .int i/\Q (some i) G1
theorem kJq:PO3 X none jUp:=by
 intro pins s τ G H Q I h
 rw[evalPart_none]
 exact wpAny_pure ⟨none,G,H,.refl H,I,.none,h⟩
theorem jV3 {e:Expr} {te:TE3} (h:PE3 X e te):PO3 X (some e) (jVx te):=by
 intro pins s τ G H Q I hw
 rw[evalPart_some]
 refine thn (h pins s τ G H _ I hw) fun u s1 w_=>w_.el fun x G1 H1 e1 I1 r_ ⟨i,ex,q⟩=>r_.el fun v rv ru=> ?_
 subst ex
 cases (show v= .int i from rv)
 obtain⟨t,rfl⟩:=ru
 exact⟨some i,G1,H1,e1,I1,.int i t,q⟩
noncomputable def Sl3 (X:Cx) (r:T->Option Int->Option Int->Gp->VK3->Prop):Prop:=
 ∀(pins:List (Addr×Obj)) (s:Shared) (τ:St3) (G:Gp) (H:Hp) (x:T) (v vl vu:Value) (lo hi:Option Int) (sl:Addr) (Q:VK3),Inv3 X pins τ G H s->RU X.K H x v->s.heap.IsSliceOf sl vl vu .none->IsPart vl lo->IsPart vu hi->r x lo hi G Q->
  ∃T id,typeLookup (.type T) "__getitem__"=pure (some (.builtin id))/\s.TypeIs v T/\wpAny (model X.prog X.w) X.A (getItem v (.ref sl)) (EP3 X pins τ H Q) X.xe s
def tSl (r:T->Option Int->Option Int->Gp->VK3->Prop) (te:TE3) (tl th:TO3):TE3:=fun τ G Q=>te τ G fun x G1=>tl τ G1 fun l G2=>th τ G2 fun u G3=>r x l u G3 Q
theorem jYq {r:T->Option Int->Option Int->Gp->VK3->Prop} {e:Expr} {te:TE3} {lo hi:Option Expr} {tl th:TO3} {pos p2:Pos} (hr:Sl3 X r) (he:PE3 X e te) (hl:PO3 X lo tl) (hu:PO3 X hi th):PE3 X (.Subscript e (.Slice lo hi none p2) pos) (tSl r te tl th):=by
 intro pins s τ G H Q I h
 refine Subscript_ (thn (he pins s τ G H _ I h) fun v s1 w_=>w_.el fun x G1 H1 e1 I1 r1 q1=> ?_)
 refine wpAny_Slice (thn (hl pins s1 τ G1 H1 _ I1 q1) fun vl s2 ⟨l,G2,H2,e2,I2,pl,q2⟩=>thn (hu pins s2 τ G2 H2 _ I2 q2) fun vu s3 ⟨u,G3,H3,e3,⟨σ,I3,hs3,hg3⟩,pu,q3⟩=> ?_)
 rw[evalPart_none]
 refine wpAny_pure ?_
 have I4:Inv X pins σ H3 {s3 with heap:=s3.heap.push {cls:= .type "slice",data:= .fields #[vl,vu,.none]} }:=I3.kept (t':=s3.toks) fun b ob q=>Heap.get?_push_of_some _ q
 obtain⟨T0,id,hT,ht,hg⟩:=hr pins {s3 with heap:=s3.heap.push {cls:= .type "slice",data:= .fields #[vl,vu,.none]} } τ G3 H3 x v vl vu l u s3.heap.objs.size Q ⟨σ,I4,hs3,hg3⟩ ((r1.mono e2).mono e3) (Heap.IsSliceOf.new ..) pl pu q3
 show wpAny (model X.prog X.w) X.A (subscriptTail e (.Slice lo hi none p2) v (.ref s3.heap.objs.size)) (EP3 X pins τ H Q) X.xe {s3 with heap:=s3.heap.push {cls:= .type "slice",data:= .fields #[vl,vu,.none]} }
 exact thn (tail_any (ops:=[.ref s3.heap.objs.size,v]) ht hT hg (by with_unfolding_all rfl)) fun _ _ z=>z.ext ((e1.trans e2).trans e3)
def cutT (xs:List T) (lo hi:Option Int):List T:=(xs.drop (HT.sIx xs.length 0 lo)).take (HT.sIx xs.length xs.length hi-HT.sIx xs.length 0 lo)
noncomputable def rSlA:T->Option Int->Option Int->Gp->VK3->Prop:=fun x lo hi G Q=>
 (∃xs,jXk G x=some xs/\∀p,G p=none->Q (.ref p) (gup G p (.lst (cutT xs lo hi))))\/∃xs,x= .tup xs/\Q (.tup (cutT xs lo hi)) G
end
end L3
namespace HT
open PySem PyProof.Rows
theorem getItem_tuple_whole {prog:Program} {w:World} {A:Around} {E:Value->Shared->Prop} {s:Shared} {t sl:Addr} {items:Array Value} {vl vu:Value} {lo hi:Option Int} {Q:Value->Shared->Prop} (ht:IsTup s.heap t items) (hs:s.heap.IsSliceOf sl vl vu .none) (pl:IsPart vl lo) (pu:IsPart vu hi)
  (hw:sIx items.size 0 lo=0/\sIx items.size items.size hi=items.size) (h:Q (.ref t) s):wpAny (model prog w) A (getItem (.ref t) (.ref sl)) Q E s:=by
 obtain⟨os,hos,hcs,hds⟩:=id hs
 have hTs:s.TypeIs (.ref sl) "slice":=⟨os,hos,hcs⟩
 unfold getItem
 try with_reducible refine wpAny_holding ?_
 first | refine wpAny_bind (wpAny_pure ?_) | skip
 refine wpAny_bind (wpAny_sequenceKey ht.typeIs (by decide) ?_)
 refine wpAny_bind (wpAny_callSpecial?_slot (name:=Str.ofString "__getitem__") ht.typeIs PyProof.Rows.slot_tuple_getitem
  (wpAny_call_entry PyProof.Rows.slot_tuple_getitem ht.typeIs entry_tuple_getitem ?_ (args_tuple_getitem _ _)))
 show wpAny _ _ (Builtin.Tuple.tupleItemsOf (.ref t) >>= _) _ _ s
 refine wpAny_bind (tupleItemsOf_ ht ?_)
 refine wpAny_bind (wpAny_typeOf hTs ?_)
 rw[if_pos (by decide)]
 refine wpAny_bind (jQj hs pl pu ?_)
 have hyes:(((sIx items.size 0 lo:Nat):Int) == 0&&(1:Int) == 1&&(sIx items.size items.size hi-sIx items.size 0 lo) == items.size)=true:=by
  rw[hw.1,hw.2];simp
 show wpAny _ _ (if (((sIx items.size 0 lo:Nat):Int) == 0&&(1:Int) == 1&&(sIx items.size items.size hi-sIx items.size 0 lo) == items.size)=true then _ else _) _ _ s
 rw[if_pos hyes]
 refine wpAny_bind ?_
 unfold Builtin.Tuple.tupleIsExact
 refine wpAny_bind (wpAny_typeOf ht.typeIs (wpAny_pure ?_))
 rw[if_pos (by decide)]
 exact wpAny_bind (wpAny_rule (wpAny_pure ⟨_,rfl,wpAny_pure h⟩))
end HT
namespace L3
open PySem PySem.Spec PyProof.Rows L2
section
variable {X:Cx}
theorem Reps.cut {K:PySem.W.Frag} {H:Hp} {xs:List T} {vs:List V} (r:Reps K H xs vs) (lo hi:Option Int):Reps K H (cutT xs lo hi) (cutV vs lo hi):=by
 unfold cutT cutV
 rw[<-r.length]
 exact (r.drop _).take _
theorem kKo {xs:List T} {lo hi:Option Int} (h:HT.sIx xs.length 0 lo=0/\HT.sIx xs.length xs.length hi=xs.length):cutT xs lo hi=xs:=by
 unfold cutT
 rw[h.1,h.2]
 simp
theorem sl_any:Sl3 X rSlA:=by
 rintro pins s τ G H x v vl vu lo hi sl Q ⟨σ,I,hs,hg⟩ ⟨a,ra,rv⟩ hsl pl pu h
 rcases h with ⟨xs,hx,q⟩ | ⟨xs,ex,q⟩
 ·obtain⟨p,vs,e,hq,r⟩:=jVq hg ra hx
  subst e
  obtain⟨T0,id,h1,h2,h3⟩:=kYc pins s σ H (.ref p) v vl vu lo hi sl (up X.K H Q) I rv hsl pl pu ⟨p,vs,rfl,hq,fun l hl=>⟨.ref l,_,.upd (.none hl),hg.lstNew (r.cut lo hi) (.none hl),rfl,q l (hg.fresh hl)⟩⟩
  exact⟨T0,id,h1,h2,thn h3 fun _ _ z=>jQt hs z⟩
 ·subst ex
  obtain⟨p,vs,e,h1,h2⟩:=(show ∃p vs,a= .ref p/\H p=some (.tup vs)/\Reps X.K H xs vs from ra)
  subst e
  by_cases hw:HT.sIx xs.length 0 lo=0/\HT.sIx xs.length xs.length hi=xs.length
  ·cases rv
   obtain⟨its,rv',ht,hz⟩:=I.tuple (.of h1)
   have hlen:its.toArray.size=xs.length:=by rw[List.size_toArray,<-rv'.length,h2.length]
   refine⟨"tuple",_,PyProof.Rows.slot_tuple_getitem.lookup,ht.typeIs,HT.getItem_tuple_whole ht hsl pl pu (by rw[hlen];exact hw) ?_⟩
   rw[kKo hw] at q
   exact⟨.tup xs,G,H,.refl H,⟨σ,I,hs,hg⟩,⟨.ref p,ra,rfl⟩,q⟩
  ·obtain⟨T0,id,h3,h4,h5⟩:=sl_tup pins s σ H (.ref p) v vl vu lo hi sl (up X.K H Q) I rv hsl pl pu ⟨p,vs,rfl,.of h1,by rw[<-h2.length];exact hw,fun l hl=>⟨.tup (cutT xs lo hi),G,.upd (.none hl),hg.tupNew hl,Rep.tupNew (h2.cut lo hi) hl,q⟩⟩
   exact⟨T0,id,h3,h4,thn h5 fun _ _ z=>jQt hs z⟩
end
section
variable {X:Cx}
def insT (xs:List T) (k:Nat) (y:T):List T:=xs.take k++y::xs.drop k
noncomputable def jUy:T->List T->Gp->VK3->Prop:=fun x as G Q=>∃p xs k y,x= .ref p/\as=[.int k,y]/\G p=some (.lst xs)/\0<=k/\k<=xs.length/\xs.length<sizeLine/\Q .non (gup G p (.lst (insT xs k.toNat y)))
theorem kJs:Mt3 X "list.insert" jUy:=by
 rintro pins s τ G H x as v us Q ⟨σ,I,hs,hg⟩ ⟨a,ra,rv⟩ ⟨bs,rbs,rus⟩ ⟨p,xs,k,y,ex,ea,hp,k0,k1,hz,q⟩
 subst ex;subst ea
 cases (show a= .ref p from ra);cases rv
 obtain⟨b1,b2,rfl,r1,r2⟩:=kKb rbs
 cases (show b1= .int k from r1)
 obtain⟨u1,u2,rfl,ru1,ru2⟩:=rus.two
 obtain⟨t,rfl⟩:=ru1
 obtain⟨vs,h1,h2⟩:=hg.lst hp
 obtain⟨z,its,n,r,hl,e⟩:=I.lstM h1
 have hlen:=h2.length
 have hfit:¬ (!Builtin.List.listFitsIndex k)=true:=by
  have h63:=jXt
  rw[fitsIndex_both (by omega) (by omega)]
  exact Bool.false_ne_true
 refine call_meets F.slot_list_insert ⟨_,e,rfl⟩ F.entry_list_insert (F.args_list_insert_3 _ _ _) (AutoSeq1.list_insert_list_int_val_1 p its.toArray n k t u2 hfit (by rw[List.size_toArray];omega)) ⟨e,?_⟩
 have e2:Ext H (upd H p (.lst (vs.take k.toNat++b2::vs.drop k.toNat))):= .upd (.lst h1)
 refine⟨.non,_,_,e2,⟨σ,I.lset (its':=its.take k.toNat++u2::its.drop k.toNat) h1 e ?_ ((r.take _).append (.cons ru2 (r.drop _))) ?_,hs.mono e2,hg.lstNew (xs:=insT xs k.toNat y) ((h2.take _).append ⟨b2,_,rfl,r2,h2.drop _⟩) (.lst h1)⟩,⟨.non,rfl,rfl⟩,q⟩
 ·have hk:¬ k<0:=by omega
  have hm:min k.toNat its.toArray.size=k.toNat:=by rw[List.size_toArray];omega
  simp only[hk,if_false,hm]
  apply Array.ext'
  simp[Array.toList_extract]
  rw[List.take_of_length_le (Nat.le_of_eq (by simp))]
 ·simp only[List.length_append,List.length_cons,List.length_take,List.length_drop]
  omega
def kXt:T->List T->Gp->VK3->Prop:=fun x as G Q=>∃p xs y,x= .ref p/\as=[y]/\G p=some (.lst xs)/\jUi y=true/\xs.all jUi=true/\Q (.int (xs.countP fun z=>eqT z y)) G
theorem jZf {K:PySem.W.Frag} {H:Hp} {y:T} {b:V} (ry:Rep K H y b) (fy:jUi y=true):∀ {xs:List T} {vs:List V} {us:List Value},Reps K H xs vs->Vals vs us->xs.all jUi=true->us.countP (eqU b)=xs.countP fun z=>eqT z y
 | [],_,_,r,q,_=>by cases r;cases q;rfl
 | x::xs,_,_,⟨v,ws,e,r1,r2⟩,q,f=>by
  subst e
  cases q with
  | cons q1 q2=>
   rw[List.all_cons,Bool.and_eq_true] at f
   rw[List.countP_cons,List.countP_cons,jZf ry fy r2 q2 f.2,kUa q1 (jVr r1 f.1),kQ7 r1 ry f.1 fy]
theorem kYw:Mt3 X "list.count" kXt:=by
 rintro pins s τ G H x as v us Q ⟨σ,I,hs,hg⟩ ⟨a,ra,rv⟩ ⟨bs,rbs,rus⟩ ⟨p,xs,y,ex,ea,hp,fy,fs,q⟩
 subst ex;subst ea
 cases (show a= .ref p from ra);cases rv
 obtain⟨b,rfl,rb⟩:=jVg rbs
 obtain⟨u,rfl,ru⟩:=rus.one
 obtain⟨vs,h1,h2⟩:=hg.lst hp
 obtain⟨z,its,n,r,hl,e⟩:=I.lstM h1
 have fl:=(jYn rb fy h2 fs).1
 refine call_meets F.slot_list_count ⟨_,e,rfl⟩ F.entry_list_count (F.args_list_count_2 _ _) (SeqAt.list_countAt p its.toArray n none #[] u (eqU b)) ⟨e,fun w hw=>jVp ru (jVr rb fy) r fl w (by simpa using hw),?_⟩
 refine⟨.int _,G,H,.refl H,⟨σ,I.tok _,hs,hg⟩,⟨.int _,rfl,s.toks,?_⟩,q⟩
 rw[<-jZf rb fy h2 r fs]
def kJg:List T->Option Bool
 | []=>some true
 | .bl b::r=>match kJg r with
  | some c=>some (b&&c)
  | none=>none
 | _::_=>none
def rAll:List T->Gp->VK3->Prop:=fun as G Q=>∃p xs b,as=[.ref p]/\G p=some (.lst xs)/\kJg xs=some b/\Q (.bl b) G
theorem jZp:∀ {xs:List T} {b:Bool},kJg xs=some b->∃bs:List Bool,xs=bs.map T.bl/\b=bs.all (fun x=>x)
 | [],b,h=>by cases h;exact⟨[],rfl,rfl⟩
 | .bl c::r,b,h=>by
  unfold kJg at h
  cases e:kJg r with
  | none=>rw[e] at h;cases h
  | some d=>
   rw[e] at h;cases h
   obtain⟨bs,h1,h2⟩:=jZp e
   exact⟨c::bs,by rw[h1];rfl,by rw[h2];rfl⟩
 | .non::_,_,h=>by cases h
 | .int _::_,_,h=>by cases h
 | .str _::_,_,h=>by cases h
 | .tup _::_,_,h=>by cases h
 | .scr _::_,_,h=>by cases h
 | .ref _::_,_,h=>by cases h
 | .ty _::_,_,h=>by cases h
theorem kJo {K:PySem.W.Frag} {H:Hp}:∀ {bs:List Bool} {vs:List V} {us:List Value},Reps K H (bs.map T.bl) vs->Vals vs us->us=bs.map Value.bool
 | [],_,_,h,q=>by cases h;cases q;rfl
 | n::ns,_,_,⟨v,ws,e,r,rs⟩,q=>by
  subst e;cases (show v= .bl n from r)
  cases q with
  | cons q1 q2=>cases q1;rw[kJo rs q2];rfl
theorem jZo:∀(bs:List Bool),bs.all (fun x=>x)=(List.range bs.length).all fun i=>bs.getD i true
 | []=>rfl
 | b::bs=>by
  rw[List.all_cons,jZo bs,List.length_cons,List.range_succ_eq_map,List.all_cons,List.all_map]
  simp[Function.comp_def,List.getD]
theorem c_all (hc:X.calm=true):Call3 X (.builtin "all") rAll:=by
 rintro pins s τ G H as us Q ⟨σ,I,hs,hg⟩ ⟨bs',rbs,rus⟩ ⟨p,xs,b,e,hp,hb,q⟩
 subst e
 obtain⟨a,rfl,ra⟩:=jVg rbs
 cases (show a= .ref p from ra)
 obtain⟨u,rfl,ru⟩:=rus.one
 cases ru
 obtain⟨vs,h1,h2⟩:=hg.lst hp
 obtain⟨bs,ex,eb⟩:=jZp hb
 subst ex
 obtain⟨its,rv,pl,hz⟩:=I.list (.of h1)
 have eit:=kJo h2 rv
 subst eit
 refine call_all_walk (wpAny_pyIter_list pl.isList ?_)
 have hne:p≠s.heap.objs.size:=by obtain⟨o,n,ho,_⟩:=pl;exact Nat.ne_of_lt (Heap.lt_size ho)
 refine⟨s.heap.objs.size,[s.heap.objs.size,p],[s.heap.objs.size],(bs.map Value.bool).toArray.size,_,_,fun i=>bs.getD i true,rfl,Walks.list (A:=X.A.in1) (show X.A.in1.handled=none from I.ok.hd hc) s.heap.objs.size p hne (bs.map Value.bool).toArray,⟨⟨_,Heap.get?_push_size _ rfl,rfl,rfl⟩,pl.isList.push _⟩,?_,?_⟩
 ·intro i v s' Q' E' hP hQ
  have hP':(bs.map Value.bool)[i]? =some v:=by simpa using hP
  rw[List.getElem?_map] at hP'
  cases e:bs[i]? with
  | none=>rw[e] at hP';cases hP'
  | some c=>
   rw[e] at hP';cases hP'
   have:bs.getD i true=c:=by simp[List.getD,e]
   have hQ':Q' (bs.getD i true) s':=hQ
   rw[this] at hQ'
   exact wpAny_truthy_bool hQ'
 ·intro h' tk hk
  have hk2:∀b o,s.heap.get? b=some o->h'.get? b=some o:=fun b o e=>hk b o (by simpa using Nat.ne_of_lt (Heap.lt_size e)) (Heap.get?_push_of_some _ e)
  refine⟨.bl b,G,H,.refl H,⟨σ,I.kept hk2,hs,hg⟩,⟨.bl b,rfl,?_⟩,q⟩
  rw[eb,jZo]
  simp
  rfl
end
structure Cal (P:Program) (w:World) (K:PySem.W.Frag) (mg:Str->Option Value) (base:Heap) (k:Nat) (x:Str) (ps:List Str) (sp:Sp3):Prop where
 ex:∃f fd,Fn3 P w K mg base k f fd ps sp/\mg x=some (.ref f)/\PySem.W.keepIn K (.ref f)=true/\Binds K fd ps []
 mono:Mono sp
 len:∀xs G Q,sp xs G Q->xs.length=ps.length
theorem jKa {X:Cx} {k:Nat} {ps:List Str} {sp:Sp3} {x:Str} {p pos:Pos} {e:Expr} {es:List Expr} {t:TA3} (C:Cal X.prog X.w X.K X.mg X.base k x ps sp) (hr:Room k X.A) (ha:PA3 X (e::es) t) (hg:Gl X x:=by rfl)
  (hdb:(x == ("__debug__":Str))=false:=by decide) (he:starEach (e::es) X.env=(false,eval e X.env)::starEach es X.env:=by rfl) (hpl:(backTo pos (starEach es X.env)).any (·.1)=false:=by rfl):
  PE3 X (.Call (.Name x p) (e::es) [] pos) (jJz sp t):=by
 intro pins s τ G H Q I h
 obtain⟨f,fd,F,hm,hk,hb⟩:=C.ex
 obtain⟨σ0,I0,hs0,hg0⟩:=id I
 refine wpAny_Call_Name_kw (jV8 I0 hg hm ?_ hdb)
 refine PySem.W.callWith_K (h₀:=X.base) I0.ok.mod.kin hk (thn (ha pos pins s τ G H _ I h) fun us s1 w_=>w_.el fun xs G1 H1 e1 i_ r_ q=>i_.el fun σ I1 hs1 hg1=>r_.el fun as ras rvs=>⟨I1.kIn,?_⟩) he hpl
 refine thn (run_fn (dvs:=[]) (ds:=[]) (E:=E0) (Q:=up X.K H1 Q) F hr hb .nil pass0 I1 rvs ?_) fun u s' z=>(jQt hs1 z).ext e1
 rw[List.append_nil]
 exact⟨by rw[<-ras.length];exact C.len _ _ _ q,xs,G1,ras,hg1,C.mono _ _ _ _ (fun t G' hq v H' e g r=>⟨t,G',e,g,r,hq⟩) q⟩
def rListA:=kQf
end L3
namespace L3
open PySem PySem.Spec PyProof.Rows
inductive Res where
 | val (t:T) | newL (xs:List T)
def fin3:Res->Gp->VK3->Prop
 | .val t,G,Q=>Q t G
 | .newL xs,G,Q=>∀p,G p=none->Q (.ref p) (gup G p (.lst xs))
theorem Op3.imp {X:L2.Cx} {f:Value->Value->Sem Value} {r r':R3} (h:Op3 X f r) (i:∀x y G Q,r' x y G Q->r x y G Q):Op3 X f r':=fun pins s τ G H x y v u Q I rx ry q=>h pins s τ G H x y v u Q I rx ry (i x y G Q q)
theorem Ix3.imp {X:L2.Cx} {r r':R3} (h:Ix3 X r) (i:∀x y G Q,r' x y G Q->r x y G Q):Ix3 X r':=fun a b pins s τ G H x y v u Q I rx ry q hs=>h a b pins s τ G H x y v u Q I rx ry (i x y G Q q) hs
theorem Set3.imp {X:L2.Cx} {r r':T->T->T->Gp->(Gp->Prop)->Prop} (h:Set3 X r) (i:∀o j v G Q,r' o j v G Q->r o j v G Q):Set3 X r':=fun pins s τ G H o j v a b c Q I ro rj rv q=>h pins s τ G H o j v a b c Q I ro rj rv (i o j v G Q q)
theorem Sl3.imp {X:L2.Cx} {r r':T->Option Int->Option Int->Gp->VK3->Prop} (h:Sl3 X r) (i:∀x l u G Q,r' x l u G Q->r x l u G Q):Sl3 X r':=fun pins s τ G H x v vl vu lo hi sl Q I rx hs pl pu q=>h pins s τ G H x v vl vu lo hi sl Q I rx hs pl pu (i x lo hi G Q q)
noncomputable def addR (G:Gp):T->T->Option Res
 | .int i,.int j=>some (.val (.int (i+j)))
 | .ref p,.ref q=>match G p,G q with
  | some (.lst xs),some (.lst ys)=>if xs.length+ys.length<=sizeLine then some (.newL (xs++ys)) else none
  | _,_=>none
 | .tup xs,.tup ys=>if xs.length≠0/\xs.length+ys.length<=sizeLine then some (.val (.tup (xs++ys))) else none
 | _,_=>none
def jJ4:R3:=fun x y G Q=>∃r,addR G x y=some r/\fin3 r G Q
theorem add_F {x y:T} {G:Gp} {Q:VK3} (h:jJ4 x y G Q):rAddA x y G Q:=by
 obtain⟨r,hr,q⟩:=h
 unfold addR at hr
 split at hr
 ·cases hr;exact .inl ⟨_,_,rfl,rfl,q⟩
 ·rename_i p q'
  split at hr
  ·rename_i xs ys h1 h2
   split at hr
   ·rename_i hz;cases hr;exact .inr (.inl ⟨p,q',xs,ys,rfl,rfl,h1,h2,hz,q⟩)
   ·cases hr
  ·cases hr
 ·rename_i xs ys
  split at hr
  ·rename_i hz;cases hr;exact .inr (.inr ⟨xs,ys,rfl,rfl,fun z=>hz.1 (by rw[z];rfl),hz.2,q⟩)
  ·cases hr
 ·cases hr
theorem o_addF {X:L2.Cx}:Op3 X (binaryOp .Add) jJ4:=o_addA.imp fun _ _ _ _=>add_F
noncomputable def mulR (G:Gp):T->T->Option Res
 | .int i,.int j=>some (.val (.int (i*j)))
 | .ref p,.int n=>match G p with
  | some (.lst xs)=>if n.toNat * xs.length<=sizeLine/\n<2^62/\ -(2^62)<n then some (.newL (List.replicate n.toNat xs).flatten) else none
  | _=>none
 | _,_=>none
def mulC:T->T->Prop
 | .int i,.int j=>L2.CMul i j
 | _,_=>True
def jYf:R3:=fun x y G Q=>∃r,mulR G x y=some r/\mulC x y/\fin3 r G Q
theorem mul_F {x y:T} {G:Gp} {Q:VK3} (h:jYf x y G Q):rMulA x y G Q:=by
 obtain⟨r,hr,c,q⟩:=h
 unfold mulR at hr
 split at hr
 ·cases hr;exact .inl ⟨_,_,rfl,rfl,c,q⟩
 ·rename_i p n
  split at hr
  ·rename_i xs h1
   split at hr
   ·rename_i hz;cases hr;exact .inr ⟨p,xs,n,rfl,rfl,h1,hz.1,hz.2.1,hz.2.2,q⟩
   ·cases hr
  ·cases hr
 ·cases hr
theorem jXr {X:L2.Cx}:Op3 X (binaryOp .Mult) jYf:=o_mulA.imp fun _ _ _ _=>mul_F
def ixR (G:Gp) (x y:T):Option T:=match seqT G x with
 | some xs=>match y with
  | .int i=>L2.atI xs i
  | _=>none
 | none=>match dAt G x y with
  | some o=>o
  | none=>none
def rIxF:R3:=fun x y G Q=>∃t,ixR G x y=some t/\Q t G
theorem ix_F' {x y:T} {G:Gp} {Q:VK3} (h:rIxF x y G Q):rIxA x y G Q:=by
 obtain⟨t,ht,q⟩:=h
 unfold ixR at ht
 split at ht
 ·rename_i xs hx
  split at ht
  ·rename_i i;exact .inl ⟨xs,i,t,hx,rfl,ht,q⟩
  ·cases ht
 ·split at ht
  ·rename_i o ho;subst ht;exact .inr ⟨t,ho,q⟩
  ·cases ht
theorem ix_F {X:L2.Cx} (hu:X.A.units+20<cLine):Ix3 X rIxF:=(kY2 hu).imp fun _ _ _ _=>ix_F'
noncomputable def setR (G:Gp) (o i v:T):Option Gp:=match o with
 | .ref p=>match G p with
  | some (.lst xs)=>match i with
   | .int k=>match L2.ixN xs.length k with
    | some j=>some (gup G p (.lst (xs.set j v)))
    | none=>none
   | _=>none
  | some (.dct kvs)=>match i with
   | .tup ys=>match jVd ys with
    | some ks=>if kvs.length<sizeLine then some (gup G p (.dct (putT kvs ks v))) else none
    | none=>none
   | _=>none
  | some (.dck kvs)=>match jU0 i with
   | some k=>if kvs.length<sizeLine then some (gup G p (.dck (putT kvs k v))) else none
   | none=>none
  | some (.fdc _)=>none
  | some (.ins _ _)=>none
  | some (.exc _)=>none
  | none=>none
 | _=>none
def jK8:T->T->T->Gp->(Gp->Prop)->Prop:=fun o i v G Q=>∃G',setR G o i v=some G'/\Q G'
theorem set_F' {o i v:T} {G:Gp} {Q:Gp->Prop} (h:jK8 o i v G Q):rSetA o i v G Q:=by
 obtain⟨G',hr,q⟩:=h
 unfold setR at hr
 split at hr
 ·rename_i p
  split at hr
  ·rename_i xs h1
   split at hr
   ·rename_i k
    split at hr
    ·rename_i j hj;cases hr;exact .inl ⟨p,xs,k,j,rfl,rfl,h1,hj,q⟩
    ·cases hr
   ·cases hr
  ·rename_i kvs h1
   split at hr
   ·rename_i ys
    split at hr
    ·rename_i ks hk
     split at hr
     ·rename_i hz;cases hr;exact .inr (.inl ⟨p,ys,ks,kvs,rfl,rfl,hk,h1,hz,q⟩)
     ·cases hr
    ·cases hr
   ·cases hr
  ·rename_i kvs h1
   split at hr
   ·rename_i k hk
    split at hr
    ·rename_i hz;cases hr;exact .inr (.inr ⟨p,k,kvs,rfl,hk,h1,hz,q⟩)
    ·cases hr
   ·cases hr
  ·cases hr
  ·cases hr
  ·cases hr
  ·cases hr
 ·cases hr
theorem s_F {X:L2.Cx} (hu:X.A.units+20<cLine):Set3 X jK8:=(s_any hu).imp fun _ _ _ _ _=>set_F'
noncomputable def rLeF:R3:=fun x y G Q=>∃b,(match x,y with
 | .int i,.int j=>some (decide (i<=j))
 | .tup [.int a,.int b],.tup [.int c,.int d]=>some (HT.lexLe [a,b] [c,d])
 | _,_=>none)=some b/\Q (.bl b) G
theorem le_F' {x y:T} {G:Gp} {Q:VK3} (h:rLeF x y G Q):rLeA x y G Q:=by
 obtain⟨b,hb,q⟩:=h
 split at hb
 ·cases hb;exact .inl ⟨_,_,rfl,rfl,q⟩
 ·cases hb;exact .inr ⟨_,_,rfl,rfl,q⟩
 ·cases hb
theorem kYu {X:L2.Cx} (hu:X.A.units+20<cLine):Op3 X (compareOp .LtE) rLeF:=(o_leA hu).imp fun _ _ _ _=>le_F'
noncomputable def inR (G:Gp) (x y:T):Option Bool:=match seqT G y with
 | some xs=>if jUi x=true/\xs.all jUi=true then some (inT x xs) else none
 | none=>match dAt G y x with
  | some o=>some o.isSome
  | none=>none
def jKn:R3:=fun x y G Q=>∃b,inR G x y=some b/\Q (.bl (!b)) G
theorem kVu {x y:T} {G:Gp} {Q:VK3} (h:jKn x y G Q):kQe x y G Q:=by
 obtain⟨b,hb,q⟩:=h
 unfold inR at hb
 split at hb
 ·rename_i xs hx
  split at hb
  ·rename_i hc;cases hb;exact .inl ⟨xs,hx,hc.1,hc.2,q⟩
  ·cases hb
 ·split at hb
  ·rename_i o ho;cases hb;exact .inr ⟨o,ho,q⟩
  ·cases hb
theorem jY6 {X:L2.Cx} (hu:X.A.units+20<cLine):Op3 X (compareOp .NotIn) jKn:=(kYs hu).imp fun _ _ _ _=>kVu
noncomputable def slR (G:Gp) (x:T) (lo hi:Option Int):Option Res:=match x with
 | .tup xs=>some (.val (.tup (cutT xs lo hi)))
 | .scr xs=>some (.newL (cutT xs lo hi))
 | .ref p=>match G p with
  | some (.lst xs)=>some (.newL (cutT xs lo hi))
  | _=>none
 | _=>none
def rSlF:T->Option Int->Option Int->Gp->VK3->Prop:=fun x lo hi G Q=>∃r,slR G x lo hi=some r/\fin3 r G Q
theorem sl_F' {x:T} {lo hi:Option Int} {G:Gp} {Q:VK3} (h:rSlF x lo hi G Q):rSlA x lo hi G Q:=by
 obtain⟨r,hr,q⟩:=h
 unfold slR at hr
 split at hr
 ·cases hr;exact .inr ⟨_,rfl,q⟩
 ·cases hr;exact .inl ⟨_,rfl,q⟩
 ·split at hr
  ·rename_i xs h1;cases hr;exact .inl ⟨xs,by simp only[jXk,h1,asL],q⟩
  ·cases hr
 ·cases hr
theorem sl_F {X:L2.Cx}:Sl3 X rSlF:=sl_any.imp fun _ _ _ _ _=>sl_F'
end L3
namespace L2
open PySem PySem.Spec PyProof.Rows
section
variable {X:Cx} {tg:Expr}
end
end L2
namespace L3
open PySem PySem.Spec PyProof.Rows L2
def Off (cs:List Addr) (g g':Heap):Prop:=∀c,c∉cs->∀o,g.get? c=some o->g'.get? c=some o
theorem Off.then {cs:List Addr} {g g' g'':Heap} (p:Off cs g g') (q:Off cs g' g''):Off cs g g'':=fun c n o e=>q c n o (p c n o e)
theorem Off.ext {cs:List Addr} {c:Addr} {g g':Heap} (h:Heap.ExtBut c g g') (m:c∈cs):Off cs g g':=fun b n o e=>h b o (fun q=>n (q▸m)) e
theorem Off.one {cs:List Addr} {c:Addr} {g g':Heap} (h:Heap.SameBut c g g') (m:c∈cs):Off cs g g':= .ext h.extBut m
theorem Off.new (cs:List Addr) (g:Heap) (o:Obj):Off cs g (g.push o):=fun _ _ _ e=>Heap.get?_push_of_some _ e
theorem Off.at {cs:List Addr} {g g':Heap} (p:Off cs g g') {c:Addr} {o:Obj} (n:c∉cs) (e:g.get? c=some o):g'.get? c=some o:=p c n o e
def jXd (cs:List Addr) (S:Heap->Prop):Prop:=∀g g',Off cs g g'->S g->S g'
noncomputable def Draw (P:Program) (w:World) (A:Around) (i:Addr) (r:Option Value) (S S':Heap->Prop):Prop:=
 ∀(s:Shared) (Q E:Value->Shared->Prop),S s.heap->
  (∀x g,r=some x->S' g->Heap.SameBut i s.heap g->Q x {s with heap:=g})->
  (∀g e o,r=none->Heap.ExtBut i s.heap g->g.get? e=some o->o.cls= .type "StopIteration"->E (.ref e) {s with heap:=g})->
  wpAny (model P w) A (Builtin.SmallTypes.nextOf (.ref i)) Q E s
def OnTup (i t:Addr) (k:Nat) (xs:Array Value) (h:Heap):Prop:=h.IsTupleIter i t k/\h.IsTuple t xs
theorem OnTup.still {cs:List Addr} {i t:Addr} {k:Nat} {xs:Array Value} (hi:i∉cs) (ht:t∉cs):jXd cs (OnTup i t k xs):=
 fun _ _ p ⟨⟨o,e,c⟩,⟨q,e',c'⟩⟩=>⟨⟨o,p.at hi e,c⟩,⟨q,p.at ht e',c'⟩⟩
theorem jQe {P:Program} {w:World} {A:Around} {i t:Addr} {k:Nat} {xs:Array Value} (hh:A.handled=none) (ne:t≠i):Draw P w A i xs[k]? (OnTup i t k xs) (OnTup i t (k+1) xs):=by
 rintro s Q E ⟨⟨o,ho,hc,hd⟩,q,hq,hqc,n,hn⟩ item stop
 have ty:s.TypeIs (.ref i) "tuple_iterator":=⟨o,ho,hc⟩
 refine wpAny_bind (wpAny_callSpecial?_slot (name:=Str.ofString "__next__") ty F.slot_tuple_iterator_next (wpAny_call_entry F.slot_tuple_iterator_next ty F.entry_tuple_iterator_next ?_ (F.args_tuple_iterator_next_1 _)))
 refine (show wpAny _ _ (field (.ref i) 0 >>= _) _ _ s from wpAny_bind (wpAny_field ho hd (x:= .ref t) rfl ?_))
 refine (show wpAny _ _ (if (Value.ref t == Value.none)=true then _ else field (.ref i) 1 >>= _) _ _ s from ?_)
 rw[if_neg (by exact Bool.false_ne_true)]
 refine wpAny_bind (wpAny_field ho hd (x:= .int k 0) rfl (show wpAny _ _ (seqItems? (.ref t) >>= _) _ _ s from wpAny_bind (wpAny_seqItems hq hn ?_)))
 cases hx:xs[k]? with
 | some x=>
  simp only[hx,Int.toNat_natCast]
  have up:OnTup i t (k+1) xs (s.heap.update i (Obj.mapFields (·.setIfInBounds 1 (rawInt ((k:Int)+1))))):=by
   refine⟨⟨_,Heap.get?_update_self _ ho (Obj.isFreed_of_fields (Obj.data_mapFields hd _)),(Obj.cls_mapFields ..).trans hc,?_⟩,q,(Heap.SameBut.update ..).extBut t q ne hq,hqc,n,hn⟩
   rw[Obj.data_mapFields hd];simp[rawInt]
  exact wpAny_bind (wpAny_setField ho hd (by simp) (wpAny_pure ⟨x,rfl,wpAny_pure (item x _ hx up (Heap.SameBut.update ..))⟩))
 | none=>
  simp only[hx,Int.toNat_natCast]
  refine wpAny_bind (wpAny_rule (wpAny_bind (wpAny_setField ho hd (by simp) (show wpAny _ _ (newExc (.type "StopIteration") [] >>= _) _ _ _ from wpAny_bind ?_))))
  simp only[newExc,newTuple,raiseNew]
  refine wpAny_bind (wpAny_newObj_type (wpAny_bind (m:=firstArgMember _ _) (wpAny_of_eq (a:=Value.none) (by first | rfl | (simp only[firstArgMember];rfl)) (wpAny_newObj_type ?_ (by size_fits)))) (by size_fits))
  refine wpAny_bind (wpAny_handled ?_);rw[show A.in1.handled=none from hh]
  exact wpAny_bind (wpAny_pure (wpAny_throw (stop _ _ _ hx (((Heap.SameBut.update ..).extBut.push _).push _) (Heap.get?_push_size _ rfl) rfl)))
structure ZipAt (z TI TO i j:Addr):Prop where
 nd:[z,TI,TO,i,j].Nodup
theorem kU0 {P:Program} {w:World} {A:Around} {z TI TO i j:Addr} {r1 r2:Option Value} {S S' U U':Heap->Prop} {a b:Value} {s:Shared} {Q E:Value->Shared->Prop}
  (D1:Draw P w A i r1 S S') (D2:Draw P w A j r2 U U') (nd:ZipAt z TI TO i j) (s1:jXd [z,TO,j] S) (s1':jXd [z,TO,j] S') (s2:jXd [z,TO,i] U) (s2':jXd [z,TO,i] U')
  (hz:IsZip s.heap z TI TO .none) (hTI:IsPair s.heap TI (.ref i) (.ref j)) (hTO:IsPair s.heap TO a b) (h1:S s.heap) (h2:U s.heap)
  (item:∀x y g,r1=some x->r2=some y->IsZip g z TI TO (rawInt s.heap.objs.size)->IsPair g TO x y->S' g->U' g->IsPair g s.heap.objs.size x y->Off [z,TO,i,j] s.heap g->Q (.ref s.heap.objs.size) {s with heap:=g})
  (stop:∀g e o,(r1=none\/r2=none)->Off [z,TO,i,j] s.heap g->g.get? e=some o->o.cls= .type "StopIteration"->E (.ref e) {s with heap:=g}):
  wpAny (model P w) A (Builtin.«zip.__next__» ⟨[.ref z],[]⟩) (fun f s'=>∃v,f= .done (.ret v)/\Q v s') E s:=by
 have ap:=nd.nd
 simp only[List.nodup_cons,List.mem_cons,List.not_mem_nil,or_false,not_or] at ap
 obtain⟨⟨zTI,zTO,zi,zj⟩,⟨TITO,TIi,TIj⟩,⟨TOi,TOj⟩,ij,_⟩:=ap
 refine (show wpAny _ _ (field (.ref z) 2 >>= _) _ _ _ from wpAny_bind (wpAny_field hz rfl (x:= .bool false) rfl (show wpAny _ _ (field (.ref z) 3 >>= _) _ _ _ from wpAny_bind (wpAny_field hz rfl (x:= .ref TI) rfl (wpAny_bind (wpAny_seqItems hTI rfl ?_))))))
 refine (show wpAny _ _ (Builtin.SmallTypes.ownedTupleIsFree (.ref z) >>= _) _ _ _ from wpAny_bind ?_)
 unfold Builtin.SmallTypes.ownedTupleIsFree;refine wpAny_bind (wpAny_field hz rfl (x:= .none) rfl (wpAny_pure ?_))
 rw[if_pos rfl]
 refine wpAny_bind (wpAny_rule (wpAny_bind (wpAny_field hz rfl (x:= .ref TO) rfl (wpAny_bind (wpAny_setField_rec hz (by simp) fun g1 hz1 b1=>wpAny_bind ?_)))))
 replace hz1:IsZip g1 z TI TO .ellipsis:=hz1
 have o1:Off [z,TO,i,j] s.heap g1:= .one b1 (by simp)
 simp only[List.forIn_cons,List.forIn_nil,List.zipIdx_cons,List.zipIdx_nil]
 refine wpAny_bind (wpAny_bind (wpAny_onRaise (show wpAny _ _ (Builtin.SmallTypes.nextOf (.ref i) >>= _) _ _ _ from wpAny_bind (D1 _ _ _ (s1 _ _ (.one b1 (by simp)) h1) (fun x g2 ex S2 b2=>wpAny_pure ?_) fun g2 e o en b2 he hc=> ?_))))
 ·have o2:Off [z,TO,i,j] s.heap g2:=o1.then (.one b2 (by simp))
  have hz2:IsZip g2 z TI TO .ellipsis:=b2.extBut _ _ zi hz1
  have hp2:IsPair g2 TO a b:=b2.extBut _ _ TOi (b1.extBut _ _ (Ne.symm zTO) hTO)
  refine wpAny_bind (wpAny_seqItems hp2 rfl (wpAny_bind (wpAny_updateSeq_pair hp2 fun g3 hp3 b3=>wpAny_bind (wpAny_letGo (wpAny_pure ?_)))))
  replace hp3:IsPair g3 TO x b:=hp3
  have o3:Off [z,TO,i,j] s.heap g3:=o2.then (.one b3 (by simp))
  have hz3:IsZip g3 z TI TO .ellipsis:=b3.extBut _ _ zTO hz2
  have U3:U g3:=s2 _ _ (((Off.one b1 (by simp)).then (.one b2 (by simp))).then (.one b3 (by simp))) h2
  refine wpAny_bind (wpAny_bind (wpAny_onRaise (show wpAny _ _ (Builtin.SmallTypes.nextOf (.ref j) >>= _) _ _ _ from wpAny_bind (D2 _ _ _ U3 (fun y g4 ey U4 b4=>wpAny_pure ?_) fun g4 e o en b4 he hc=> ?_))))
  ·have hp4:IsPair g4 TO x b:=b4.extBut _ _ TOj hp3
   refine wpAny_bind (wpAny_seqItems hp4 rfl (wpAny_bind (wpAny_updateSeq_pair hp4 fun g5 hp5 b5=>wpAny_bind (wpAny_letGo (wpAny_pure (wpAny_pure ?_))))))
   replace hp5:IsPair g5 TO x y:=hp5
   have o5:Off [z,TO,i,j] s.heap g5:=(o3.then (.one b4 (by simp))).then (.one b5 (by simp))
   have hz5:IsZip g5 z TI TO .ellipsis:=b5.extBut _ _ zTO (b4.extBut _ _ zj hz3)
   have S5:S' g5:=s1' _ _ (((Off.one b3 (by simp)).then (.one b4 (by simp))).then (.one b5 (by simp))) S2
   have U5:U' g5:=s2' _ _ (.one b5 (by simp)) U4
   have n5:g5.objs.size=s.heap.objs.size:=by rw[b5.1,b4.1,b3.1,b2.1,b1.1]
   refine wpAny_bind (wpAny_seqItems hp5 rfl (wpAny_bind (wpAny_newTuple ?_)))
   refine (show wpAny _ _ (Builtin.SmallTypes.ownedTupleHandOut (.ref z) (.ref g5.objs.size) >>= _) _ _ _ from wpAny_bind ?_)
   unfold Builtin.SmallTypes.ownedTupleHandOut;refine wpAny_bind (wpAny_setField_rec (show IsZip (g5.push {cls:= .type "tuple",data:= .seq #[x,y]}) z TI TO .ellipsis from Heap.get?_push_of_some _ hz5) (by simp) fun g6 hz6 b6=> ?_)
   refine wpAny_setField_rec hz6 (by simp) fun g7 hz7 b7=>wpAny_pure ⟨_,rfl,?_⟩
   have o7:Off [z] g5 g7:=((Off.new _ _ _).then (.one b6 (by simp))).then (.one b7 (by simp))
   have zl:z<g5.objs.size:=Heap.lt_size hz5
   have new:IsPair g7 g5.objs.size x y:=b7.extBut _ _ (Nat.ne_of_gt zl) (b6.extBut _ _ (Nat.ne_of_gt zl) (Heap.get?_push_size _ rfl))
   replace hz7:IsZip g7 z TI TO (rawInt g5.objs.size):=hz7
   show Q (.ref g5.objs.size) _
   rw[n5] at hz7 new ⊢
   have w1:∀ {cs:List Addr},z∈cs->Off cs g5 g7:=fun m c n=>o7 c (by simp only[List.mem_singleton];exact fun q=>n (q▸m))
   exact item x y g7 ex ey hz7 (o7.at (by simpa using Ne.symm zTO) hp5) (s1' _ _ (w1 (by simp)) S5) (s2' _ _ (w1 (by simp)) U5) new (o5.then (w1 (by simp)))
  ·have hz4:IsZip g4 z TI TO .ellipsis:=b4 _ _ zj hz3
   have ez:e≠z:=fun q=>by subst q;rw[hz4] at he;cases he;simp at hc
   exact wpAny_setField_rec hz4 (by simp) fun g5 _ b5=>stop g5 e o (.inr en) ((o3.then (.ext b4 (by simp))).then (.one b5 (by simp))) (b5.extBut _ _ ez he) hc
 ·have hz2:IsZip g2 z TI TO .ellipsis:=b2 _ _ zi hz1
  have ez:e≠z:=fun q=>by subst q;rw[hz2] at he;cases he;simp at hc
  exact wpAny_setField_rec hz2 (by simp) fun g3 _ b3=>stop g3 e o (.inl en) ((o1.then (.ext b2 (by simp))).then (.one b3 (by simp))) (b3.extBut _ _ ez he) hc
theorem kJj {P:Program} {w:World} {A:Around} {z TI TO i j:Addr} {r1 r2:Option Value} {S S' U U':Heap->Prop} {a b:Value} {s:Shared} {Q:Option Value->Shared->Prop} {E:Value->Shared->Prop}
  (D1:Draw P w A.in1 i r1 S S') (D2:Draw P w A.in1 j r2 U U') (nd:ZipAt z TI TO i j) (s1:jXd [z,TO,j] S) (s1':jXd [z,TO,j] S') (s2:jXd [z,TO,i] U) (s2':jXd [z,TO,i] U')
  (hz:IsZip s.heap z TI TO .none) (hTI:IsPair s.heap TI (.ref i) (.ref j)) (hTO:IsPair s.heap TO a b) (h1:S s.heap) (h2:U s.heap)
  (item:∀x y g,r1=some x->r2=some y->IsZip g z TI TO (rawInt s.heap.objs.size)->IsPair g TO x y->S' g->U' g->IsPair g s.heap.objs.size x y->Off [z,TO,i,j] s.heap g->Q (some (.ref s.heap.objs.size)) {s with heap:=g})
  (stop:∀g,(r1=none\/r2=none)->Off [z,TO,i,j] s.heap g->Q none {s with heap:=g}):wpAny (model P w) A (pyNext (.ref z)) Q E s:=by
 have ty:s.TypeIs (.ref z) "zip":=⟨_,hz,rfl⟩
 refine wpAny_bind (wpAny_attempt (wpAny_callSpecial?_slot (name:=Str.ofString "__next__") ty F.slot_zip_next (wpAny_call_entry F.slot_zip_next ty F.entry_zip_next ?_ (F.args_zip_next_1 _))))
 refine kU0 D1 D2 nd s1 s1' s2 s2' hz hTI hTO h1 h2 (fun x y g q1 q2 q3 q4 q5 q6 q7 q8=>wpAny_pure (item x y g q1 q2 q3 q4 q5 q6 q7 q8)) fun g e o en f he hc=> ?_
 exact wpAny_bind (wpAny_isInstance (T:="StopIteration") (b:=true) ⟨o,he,hc⟩ isSubtype_stop (wpAny_pure (stop g en f)))
def itOf (t:Addr):Obj:={cls:= .type "tuple_iterator",data:= .fields #[.ref t,.int 0 0]}
def jUo (xs:Array Value):Obj:={cls:= .type "tuple",data:= .seq xs}
noncomputable def zips (g:Heap) (t u:Addr):Heap:=
 let g2:=(g.push (itOf t)).push (itOf u)
 let g3:=g2.push (jUo #[.ref g.objs.size,.ref (g.push (itOf t)).objs.size])
 let g4:=g3.push (jUo #[.none,.none])
 g4.push {cls:= .type "zip",data:= .fields #[.none,.bool false,.bool false,.ref g2.objs.size,.ref g3.objs.size]}
theorem kX5 (t u:Addr) (xs ys:Array Value):
  Meets (Builtin.«zip.__new__» ⟨[.type "zip",.ref t,.ref u],[]⟩) fun _ R s=>s.heap.IsTuple t xs/\s.heap.IsTuple u ys/\R (.ok (.ret (.ref (((((s.heap.push (itOf t)).push (itOf u)).push (jUo #[.ref s.heap.objs.size,.ref (s.heap.push (itOf t)).objs.size])).push (jUo #[.none,.none])).objs.size)))) {s with heap:=zips s.heap t u}:=by
 refine .of_wp fun P w A R s ⟨ht,hu,h⟩=> ?_
 obtain⟨g,a1,a2,a3,a4⟩:=s
 have sb:=sub_zip
 have m1:Heap.IsTuple (Shared.heap ⟨g,a1,a2,a3,a4⟩) t xs:=ht
 have m2:Heap.IsTuple (Shared.heap ⟨g.push {cls:= .type "tuple_iterator",data:= .fields #[.ref t,.int 0 0]},a1,a2,a3,a4⟩) u ys:=hu.push _
 wp_walk using wpAny_pyIter_tuple m1,wpAny_pyIter_tuple m2
 exact⟨_,rfl,h⟩
theorem kUz {P:Program} {w:World} {A:Around} {s:Shared} {t u:Addr} {xs ys:Array Value} {Q E:Value->Shared->Prop} (ht:s.heap.IsTuple t xs) (hu:s.heap.IsTuple u ys)
  (h:∀g n,n=s.heap.objs.size->IsZip g (n+4) (n+2) (n+3) .none->IsPair g (n+2) (.ref n) (.ref (n+1))->IsPair g (n+3) .none .none->OnTup n t 0 xs g->OnTup (n+1) u 0 ys g->
   (∀c o,s.heap.get? c=some o->g.get? c=some o)->Q (.ref (n+4)) {s with heap:=g}):wpAny (model P w) A (call (.type "zip") [.ref t,.ref u]) Q E s:=by
 refine callType_new F.called_zip (by decide) (F.typeCall_zip_2 _ _) (F.newCall_zip_2 _ _) (fun obj=>F.args_object_init_3 obj _ _) F.entry_zip_new (kX5 t u xs ys) ⟨ht,hu,?_⟩
 have hn:∀(g:Heap) (o:Obj),(g.push o).objs.size=g.objs.size+1:=fun _ _=>Heap.size_push ..
 have up:∀ {g:Heap} {o q:Obj} {c:Addr},g.get? c=some q->(g.push o).get? c=some q:=fun e=>Heap.get?_push_of_some _ e
 have at':∀(g:Heap) (o:Obj),o.isFreed=false->(g.push o).get? g.objs.size=some o:=fun g o h=>Heap.get?_push_size _ h
 have kp:∀c o,s.heap.get? c=some o->(zips s.heap t u).get? c=some o:=fun c o e=>up (up (up (up (up e))))
 obtain⟨q,hq,hr⟩:=ht
 obtain⟨q',hq',hr'⟩:=hu
 have c0:(zips s.heap t u).get? s.heap.objs.size=some (itOf t):=up (up (up (up (at' _ _ rfl))))
 have c1:(zips s.heap t u).get? (s.heap.push (itOf t)).objs.size=some (itOf u):=up (up (up (at' _ _ rfl)))
 have c2:=up (g:=((s.heap.push (itOf t)).push (itOf u)).push (jUo #[.ref s.heap.objs.size,.ref (s.heap.push (itOf t)).objs.size])) (o:=jUo #[.none,.none]) (at' ((s.heap.push (itOf t)).push (itOf u)) (jUo #[.ref s.heap.objs.size,.ref (s.heap.push (itOf t)).objs.size]) rfl)
 have c2':(zips s.heap t u).get? ((s.heap.push (itOf t)).push (itOf u)).objs.size=some (jUo #[.ref s.heap.objs.size,.ref (s.heap.push (itOf t)).objs.size]):=up c2
 have c3:(zips s.heap t u).get? (((s.heap.push (itOf t)).push (itOf u)).push (jUo #[.ref s.heap.objs.size,.ref (s.heap.push (itOf t)).objs.size])).objs.size=some (jUo #[.none,.none]):=up (at' _ _ rfl)
 have c4:(zips s.heap t u).get? ((((s.heap.push (itOf t)).push (itOf u)).push (jUo #[.ref s.heap.objs.size,.ref (s.heap.push (itOf t)).objs.size])).push (jUo #[.none,.none])).objs.size=some {cls:= .type "zip",data:= .fields #[.none,.bool false,.bool false,.ref ((s.heap.push (itOf t)).push (itOf u)).objs.size,.ref (((s.heap.push (itOf t)).push (itOf u)).push (jUo #[.ref s.heap.objs.size,.ref (s.heap.push (itOf t)).objs.size])).objs.size]}:=at' _ _ rfl
 show _/\_
 simp only[hn] at c1 c2' c3 c4 ⊢
 exact⟨⟨_,c4,rfl⟩,h _ _ rfl c4 c2' c3 ⟨⟨_,c0,rfl,rfl⟩,q,kp _ _ hq,hr⟩ ⟨⟨_,c1,rfl,rfl⟩,q',kp _ _ hq',hr'⟩ kp⟩
noncomputable def Itz (K:PySem.W.Frag) (a1 a2:Addr):It:=
 ⟨fun i H=>∃xs ys x y,SqT K H a1 xs/\SqT K H a2 ys/\xs[i]? =some x/\ys[i]? =some y,
  fun i H v H'=>∃p x y,H p=none/\v= .ref p/\(∀xs,SqT K H a1 xs->xs[i]? =some x)/\(∀ys,SqT K H a2 ys->ys[i]? =some y)/\H'=upd H p (.tup [x,y]),
  fun i H=>∃xs ys,SqT K H a1 xs/\SqT K H a2 ys/\(xs.length<=i\/ys.length<=i)⟩
theorem kXo {z TI TO i1 i2 a1 a2:Addr} (D:ZipApart z TI TO i1 i2 a1 a2):ZipAt z TI TO i1 i2:=
 ⟨by simp[D.TIz.symm,D.TOz.symm,D.i1z.symm,D.i2z.symm,D.TITO,D.TIi1,D.TIi2,D.TOi1,D.TOi2,D.i12]⟩
theorem jX4 {z TI TO i1 i2 a1 a2:Addr} {k:Nat} {xs:Array Value} (D:ZipApart z TI TO i1 i2 a1 a2):jXd [z,TO,i2] (OnTup i1 a1 k xs):=
 OnTup.still (by simp[D.i1z,D.TOi1.symm,D.i12]) (by simp[D.l1z,D.l1TO,D.l1i2])
theorem jX3 {z TI TO i1 i2 a1 a2:Addr} {k:Nat} {xs:Array Value} (D:ZipApart z TI TO i1 i2 a1 a2):jXd [z,TO,i1] (OnTup i2 a2 k xs):=
 OnTup.still (by simp[D.i2z,D.TOi2.symm,D.i12.symm]) (by simp[D.l2z,D.l2TO,D.l2i1])
theorem kU3 {P:Program} {w:World} {K:PySem.W.Frag} {elts:List Expr} {k:Nat} {pos:Pos} (z TI TO i1 i2 a1 a2:Addr) (D:ZipApart z TI TO i1 i2 a1 a2):
  Turn P w K (.Tuple elts k pos) (Itz K a1 a2) [z,TI,TO,i1,i2] z (fun i h=>IsZip h z TI TO .none/\IsPair h TI (.ref i1) (.ref i2)/\(∃a b,IsPair h TO a b)/\h.IsTupleIter i1 a1 i/\h.IsTupleIter i2 a2 i) where
 mem:=by simp
 obj:=fun i h ⟨hz,hTI,⟨a,b,hTO⟩,h1,h2⟩ c hc=>by
  simp only[List.mem_cons,List.not_mem_nil,or_false] at hc
  rcases hc with rfl | rfl | rfl | rfl | rfl
  ·exact⟨_,hz,fun v z=>nomatch (show Data.fields _=Data.cell v from z)⟩
  ·exact⟨_,hTI,fun v z=>nomatch (show Data.seq _ _=Data.cell v from z)⟩
  ·exact⟨_,hTO,fun v z=>nomatch (show Data.seq _ _=Data.cell v from z)⟩
  ·obtain⟨o,e,c,d⟩:=h1;exact⟨o,e,fun v z=>by rw[d] at z;cases z⟩
  ·obtain⟨o,e,c,d⟩:=h2;exact⟨o,e,fun v z=>by rw[d] at z;cases z⟩
 keep:=fun i h h' ⟨hz,hTI,⟨a,b,hTO⟩,h1,h2⟩ kp=>⟨kp z (by simp) _ hz,kp TI (by simp) _ hTI,⟨a,b,kp TO (by simp) _ hTO⟩,h1.at fun o q=>kp i1 (by simp) o q,h2.at fun o q=>kp i2 (by simp) o q⟩
 item:=by
  rintro X hP hw hK hc i pins s σ H E I hf ⟨hz,hTI,⟨a,b,hTO⟩,h1,h2⟩ hg
  subst hP hw hK
  obtain⟨xs,ys,x,y,hq1,hq2,hx,hy⟩:=hg
  obtain⟨its1,rv1,p1,hz1⟩:=I.tuple hq1
  obtain⟨its2,rv2,p2,hz2⟩:=I.tuple hq2
  obtain⟨u1,hu1,ru1⟩:=rv1.get hx
  obtain⟨u2,hu2,ru2⟩:=rv2.get hy
  refine kJj (r1:=its1.toArray[i]?) (r2:=its2.toArray[i]?) (jQe (I.ok.hd hc) D.l1i1) (jQe (I.ok.hd hc) D.l2i2) (kXo D) (jX4 D) (jX4 D) (jX3 D) (jX3 D) hz hTI hTO ⟨h1,p1⟩ ⟨h2,p2⟩ (fun x' y' g1 ex ey ho gTO g3 g4 hT hk=> ?_) (fun g en _=> ?_)
  rotate_left
  ·rcases en with e | e
   ·rw[show its1.toArray[i]? =some u1 by simpa using hu1] at e;cases e
   ·rw[show its2.toArray[i]? =some u2 by simpa using hu2] at e;cases e
  obtain rfl:u1=x':=by simpa[hu1] using ex
  obtain rfl:u2=y':=by simpa[hu2] using ey
  refine⟨_,rfl,wpAny_letOwnedTupleGo_zip ho fun g2 gz hs2=> ?_⟩
  have hzl:z<s.heap.objs.size:=Heap.lt_size hz
  have hp2:∀b o,b∉[z,TI,TO,i1,i2]->s.heap.get? b=some o->g2.get? b=some o:=fun b o hb q=>by
   simp only[List.mem_cons,List.not_mem_nil,or_false,not_or] at hb
   exact (hs2.2 b hb.1).trans (hk b (by simp only[List.mem_cons,List.not_mem_nil,or_false,not_or];exact⟨hb.1,hb.2.2.1,hb.2.2.2.1,hb.2.2.2.2⟩) o q)
  have hT2:g2.get? s.heap.objs.size=some {cls:= .type "tuple",data:= .seq #[u1,u2]}:=(hs2.2 _ (Nat.ne_of_gt hzl)).trans hT
  have I2:=jVw (t':=s.toks) (h':=g2) (p:=s.heap.objs.size) (vs:=[x,y]) (us:=[u1,u2]) I hp2 hf (Nat.le_refl _) ⟨_,hT2,rfl,_,rfl,rfl⟩ (.cons ru1 (.cons ru2 .nil)) (by show 2<=sizeLine;decide)
  refine⟨.ref s.heap.objs.size,_,I2,rfl,⟨_,x,y,I.hok.fresh (Nat.le_refl _),rfl,fun zs hz=>by rw[I.tuple_inj hz hq1];exact hx,fun zs hz=>by rw[I.tuple_inj hz hq2];exact hy,rfl⟩,
   ⟨gz,(hs2.2 _ D.TIz).trans (hk _ (by simp[D.TIz,D.TITO,D.TIi1,D.TIi2]) _ hTI),⟨_,_,(hs2.2 _ D.TOz).trans gTO⟩,g3.1.at fun o q=>(hs2.2 _ D.i1z).trans q,g4.1.at fun o q=>(hs2.2 _ D.i2z).trans q⟩,fun b hb=> ?_⟩
  have hbs:∃o,s.heap.get? b=some o:=by
   have hbq:=hb
   simp only[List.mem_cons,List.not_mem_nil,or_false] at hbq
   rcases hbq with rfl | rfl | rfl | rfl | rfl
   ·exact⟨_,hz⟩
   ·exact⟨_,hTI⟩
   ·exact⟨_,hTO⟩
   ·obtain⟨o,q,_⟩:=h1;exact⟨o,q⟩
   ·obtain⟨o,q,_⟩:=h2;exact⟨o,q⟩
  obtain⟨o,q⟩:=hbs
  rw[jJr (Nat.ne_of_lt (Heap.lt_size q))]
  exact (hf b hb).1
 done:=by
  rintro X hP hw hK hc i pins s σ H E I hf ⟨hz,hTI,⟨a,b,hTO⟩,h1,h2⟩ hg
  subst hP hw hK
  obtain⟨xs,ys,hq1,hq2,hx⟩:=hg
  obtain⟨its1,rv1,p1,hz1⟩:=I.tuple hq1
  obtain⟨its2,rv2,p2,hz2⟩:=I.tuple hq2
  have hl1:=rv1.length
  have hl2:=rv2.length
  refine kJj (r1:=its1.toArray[i]?) (r2:=its2.toArray[i]?) (jQe (I.ok.hd hc) D.l1i1) (jQe (I.ok.hd hc) D.l2i2) (kXo D) (jX4 D) (jX4 D) (jX3 D) (jX3 D) hz hTI hTO ⟨h1,p1⟩ ⟨h2,p2⟩ (fun x' y' g1 ex ey _ _ _ _ _ _=> ?_) (fun g1 _ hk=>⟨rfl,jZt (t':=s.toks) (fp:=[z,TI,TO,i1,i2]) I (fun b o hb q=> ?_) hf⟩)
  ·have q1:i<its1.length:=by simpa using (Array.getElem?_eq_some_iff.mp ex).1
   have q2:i<its2.length:=by simpa using (Array.getElem?_eq_some_iff.mp ey).1
   omega
  ·exact hk b (fun m=>hb (by simp only[List.mem_cons,List.not_mem_nil,or_false] at m ⊢; rcases m with h | h | h | h<;>simp[h])) o q
 self:=fun _ _ _ _ _ ⟨hz,_⟩ h=>wpAny_pyIter_zip hz h
theorem zapart {n a b:Nat} (ha:a<n) (hb:b<n):ZipApart (n+4) (n+2) (n+3) n (n+1) a b:=by
 constructor<;>(show @Ne Nat _ _;omega)
def zipT (xs ys:List T):List T:=(xs.zip ys).map fun p=>T.tup [p.1,p.2]
def iZip (ta:TA3):TI3:=fun τ G R=>ta τ G fun vs G1=>∃xs ys,vs=[.tup xs,.tup ys]/\R (zipT xs ys) (fun _=>True) G1
theorem i_zip {X:Cx} {elts:List Expr} {k:Nat} {tpos pos p:Pos} {a b:Expr} {ta:TA3} (hg:Gl X "zip") (hm:X.mg "zip"=none) (hv:bootBuiltins "zip"=some (.type "zip")) (ha:PA3 X [a,b] ta) (hs:starEach [a,b] X.env=[(false,eval a X.env),(false,eval b X.env)]:=by rfl) (hs2:starEach [b] X.env=[(false,eval b X.env)]:=by rfl):
  PI3 X (.Tuple elts k tpos) (.Call (.Name "zip" p) [a,b] [] pos) (iZip ta):=by
 intro pins s τ G H R I h
 obtain⟨σ0,I0,hs0,hg0⟩:=id I
 refine Call_ (jUf I0 hg hm hv (PyProof.Rows.callWith_type1 (thn (ha pos pins s τ G H _ I h) fun us s1 w_=>w_.el fun xs' G1 H1 e1 i_ r_ q1=>i_.el fun σ I1 hs1 hg1=>r_.el fun as ras rvs=> ?_) (by rw[hs,hs2]) (by rw[hs2];rfl)))
 obtain⟨xs,ys,e,q⟩:=q1
 subst e
 obtain⟨v,w,rfl,rv,rw'⟩:=kKb ras
 obtain⟨u,u',rfl,ru,ru'⟩:=rvs.two
 obtain⟨pa,vs,rfl,hq1,r1⟩:=(show ∃p vs,v= .ref p/\H1 p=some (.tup vs)/\Reps X.K H1 xs vs from rv)
 obtain⟨pb,ws,rfl,hq2,r2⟩:=(show ∃p vs,w= .ref p/\H1 p=some (.tup vs)/\Reps X.K H1 ys vs from rw')
 cases ru;cases ru'
 obtain⟨its1,rv1,p1,hz1⟩:=I1.tuple (.of hq1)
 obtain⟨its2,rv2,p2,hz2⟩:=I1.tuple (.of hq2)
 have hal:pa<s1.heap.objs.size:=by obtain⟨o,ho,_⟩:=p1;exact Heap.lt_size ho
 have hbl:pb<s1.heap.objs.size:=by obtain⟨o,ho,_⟩:=p2;exact Heap.lt_size ho
 refine kUz (show s1.heap.IsTuple pa its1.toArray from p1) (show s1.heap.IsTuple pb its2.toArray from p2) fun h1 n hn hz hTI hTO hi1 hi2 hk=> ?_
 subst hn
 have I2:Inv X pins σ H1 {s1 with heap:=h1}:=I1.kept (t':=s1.toks) hk
 refine wpAny_pyIter_zip hz ?_
 have fr:∀c∈[s1.heap.objs.size+4,s1.heap.objs.size+2,s1.heap.objs.size+3,s1.heap.objs.size,s1.heap.objs.size+1],FpOk X pins H1 c:=fun c hc=>by
  simp only[List.mem_cons,List.not_mem_nil,or_false] at hc
  have hle:s1.heap.objs.size<=c:=by omega
  exact I1.fpOk hle (I1.hok.fresh hle)
 have D:ZipApart (s1.heap.objs.size+4) (s1.heap.objs.size+2) (s1.heap.objs.size+3) s1.heap.objs.size (s1.heap.objs.size+1) pa pb:=zapart hal hbl
 refine⟨s1.heap.objs.size+4,_,_,_,zipT xs ys,fun _=>True,G1,H1,rfl,e1,⟨σ,I2,hs1,hg1⟩,kU3 _ _ _ _ _ pa pb D,⟨hz,hTI,⟨_,_,hTO⟩,hi1.1,hi2.1⟩,fr,?_,q⟩
 intro i H2 G2 e2 g2 _
 obtain⟨pa',vs',ea,ha',ra'⟩:=(show ∃p vs,V.ref pa= .ref p/\H2 p=some (.tup vs)/\Reps X.K H2 xs vs from Rep.mono e2 _ rv)
 obtain⟨pb',ws',eb,hbq,rb'⟩:=(show ∃p vs,V.ref pb= .ref p/\H2 p=some (.tup vs)/\Reps X.K H2 ys vs from Rep.mono e2 _ rw')
 cases ea;cases eb
 have hl1:=ra'.length
 have hl2:=rb'.length
 have hzl:(zipT xs ys).length=min xs.length ys.length:=by simp[zipT]
 refine⟨fun hi=> ?_,fun hi=>⟨vs',ws',.of ha',.of hbq,by omega⟩,fun hi y H' ⟨pp,x1,x2,hn,ey,hy1,hy2,eH⟩=> ?_⟩
 ·exact⟨vs',ws',vs'[i]'(by omega),ws'[i]'(by omega),.of ha',.of hbq,List.getElem?_eq_getElem _,List.getElem?_eq_getElem _⟩
 ·subst ey;subst eH
  obtain⟨t1,ht1,rt1⟩:=ra'.get' (hy1 vs' (.of ha'))
  obtain⟨t2,ht2,rt2⟩:=rb'.get' (hy2 ws' (.of hbq))
  have hzi:(zipT xs ys)[i]? =some (.tup [t1,t2]):=by
   unfold zipT
   rw[List.getElem?_map,show (xs.zip ys)[i]? =some (t1,t2) from List.getElem?_zip_eq_some.mpr ⟨ht1,ht2⟩];rfl
  exact⟨.upd (.none hn),g2.tupNew hn,_,hzi,Rep.tupNew ⟨_,_,rfl,rt1,_,_,rfl,rt2,rfl⟩ hn⟩
end L3
namespace L3
open PySem
theorem atN {α:Type} {xs:List α} {n:Nat}:L2.atI xs (n:Int)=xs[n]? :=by
 unfold L2.atI L2.ixN
 by_cases h:n<xs.length
 ·simp[h]
 ·simp[h]
theorem at0 {α:Type} {x:α} {xs:List α}:L2.atI (x::xs) 0=some x:=(atN (n:=0)).trans rfl
theorem at1 {α:Type} {x y:α} {xs:List α}:L2.atI (x::y::xs) 1=some y:=(atN (n:=1)).trans rfl
theorem at2 {α:Type} {x y z:α} {xs:List α}:L2.atI (x::y::z::xs) 2=some z:=(atN (n:=2)).trans rfl
theorem atZ {α:Type} {xs:List α} {i:Int} (h:0<=i):L2.atI xs i=xs[i.toNat]? :=by
 obtain⟨n,rfl⟩:=Int.eq_ofNat_of_zero_le h
 simpa using atN
theorem kY7 {n k:Nat} (h:k<n):L2.ixN n (k:Int)=some k:=by simp[L2.ixN,h]
theorem ix0 {n:Nat}:L2.ixN (n+1) 0=some 0:=kY7 (k:=0) (by omega)
theorem ix1 {n:Nat}:L2.ixN (n+2) 1=some 1:=kY7 (k:=1) (by omega)
theorem ix2 {n:Nat}:L2.ixN (n+3) 2=some 2:=kY7 (k:=2) (by omega)
theorem ix30:L2.ixN 3 0=some 0:=ix0
theorem ix31:L2.ixN 3 1=some 1:=ix1
theorem ix32:L2.ixN 3 2=some 2:=ix2
theorem kXj {G:Gp} {i j:Int}:addR G (.int i) (.int j)=some (.val (.int (i+j))):=rfl
theorem kVv {G:Gp} {i j:Int}:mulR G (.int i) (.int j)=some (.val (.int (i*j))):=rfl
theorem kVx {i j:Int}:mulC (.int i) (.int j)=L2.CMul i j:=rfl
theorem kVw {p:Addr} {j:Int}:mulC (.ref p) (.int j)=True:=rfl
theorem kZe {t:T} {G:Gp} {Q:VK3}:fin3 (.val t) G Q=Q t G:=rfl
theorem kZf {xs:List T} {G:Gp} {Q:VK3}:fin3 (.newL xs) G Q=∀p,G p=none->Q (.ref p) (gup G p (.lst xs)):=rfl
theorem kY3 {G:Gp} {xs:List T} {i:Int}:ixR G (.tup xs) (.int i)=L2.atI xs i:=rfl
theorem kY4 {G:Gp} {xs:List T} {i:Int}:ixR G (.scr xs) (.int i)=L2.atI xs i:=rfl
theorem jJ9 {G:Gp} {p:Addr} {xs:List T} {i:Int} (h:G p=some (.lst xs)):ixR G (.ref p) (.int i)=L2.atI xs i:=by simp only[ixR,seqT,h,asL]
theorem kVc {G:Gp} {xs:List T}:seqT G (.tup xs)=some xs:=rfl
theorem jJm {G:Gp} {p:Addr} {xs:List T} (h:G p=some (.lst xs)):seqT G (.ref p)=some xs:=by simp only[seqT,h,asL]
theorem kXp {G:Gp} {p:Addr} {xs:List T} {k:Int} {v:T} (h:G p=some (.lst xs)):setR G (.ref p) (.int k) v=(L2.ixN xs.length k).map fun j=>gup G p (.lst (xs.set j v)):=by
 cases e:L2.ixN xs.length k with
 | none=>simp only[setR,h,e,Option.map_none]
 | some j=>simp only[setR,h,e,Option.map_some]
theorem kVa {G:Gp} {p:Addr} {xs:List T} {k:Int} {v:T}:setR (gup G p (.lst xs)) (.ref p) (.int k) v=(L2.ixN xs.length k).map fun j=>gup G p (.lst (xs.set j v)):=by
 rw[kXp jJg];simp only[kQ4]
theorem kY5 {G:Gp} {p:Addr} {xs:List T} {i:Int}:ixR (gup G p (.lst xs)) (.ref p) (.int i)=L2.atI xs i:=jJ9 jJg
theorem kVd {G:Gp} {p:Addr} {xs:List T}:seqT (gup G p (.lst xs)) (.ref p)=some xs:=jJm jJg
noncomputable def ForAt (g:TG3) (tb:TS3) (D:Ends3) (τ:St3) (xs:List T) (stay:Gp->Prop) (G:Gp):Prop:=∃P:Nat->St3->Gp->Prop,P 0 τ G/\(∀i τ G,i<=xs.length->P i τ G->stay G)/\
 (∀i x τ G,xs[i]? =some x->P i τ G->g x τ G fun τ2 G2=>tb {D with nx:=P (i+1),ct:=P (i+1),bk:=D.nx} τ2 G2)/\∀ τ G,P xs.length τ G->D.nx τ G
theorem jJ3 {wi:TI3} {g:TG3} {tb:TS3} {D:Ends3} {τ:St3} {G:Gp}:tFor wi g tb D τ G=wi τ G fun xs stay G1=>ForAt g tb D τ xs stay G1:=rfl
def jXz (mask:List Bool) (g:TG3) (tif:TT3) (te:TE3) (τ:St3) (xs:List T) (stay:Gp->Prop) (G:Gp) (Q:VK3):Prop:=jX2 mask g tif te τ xs stay G Q
theorem kU7 {mask:List Bool} {wi:TI3} {g:TG3} {tif:TT3} {te:TE3} {τ:St3} {G:Gp} {Q:VK3}:jKh mask wi g tif te τ G Q=wi τ G fun xs stay G1=>jXz mask g tif te τ xs stay G1 Q:=rfl
def Sub (G G':Gp):Prop:=∀c o,G c=some o->G' c=some o
theorem Sub.refl (G:Gp):Sub G G:=fun _ _ h=>h
theorem Sub.trans {G G1 G2:Gp} (h:Sub G G1) (h':Sub G1 G2):Sub G G2:=fun c o e=>h' c o (h c o e)
theorem Sub.new {p:Addr} {G:Gp} {o:GO} (hp:G p=none):Sub G (gup G p o):=fun c u e=>by rw[jJp];exact e;rintro rfl;rw[hp] at e;cases e
theorem Sub.over {p:Addr} {G G':Gp} {o:GO} (h:Sub G G') (hp:G p=none):Sub G (gup G' p o):=fun c u e=>by rw[jJp];exact h c u e;rintro rfl;rw[hp] at e;cases e
theorem Sub.none {G G':Gp} {p:Addr} (h:Sub G G') (hp:G' p=none):G p=none:=by
 cases e:G p with
 | none=>rfl
 | some o=>rw[h p o e] at hp;cases hp
theorem jJj {G:Gp} {a p:Addr} {o:GO} (h:G a=some o) (hp:G p=none):a≠p:=by rintro rfl;rw[h] at hp;cases hp
theorem jJ5 {α β:Type} {enc:α->β} {es:List α} {i:Nat} {x:β} (h:(es.map enc)[i]? =some x):∃e,es[i]? =some e/\x=enc e:=by
 rw[List.getElem?_map] at h
 cases e1:es[i]? with
 | none=>rw[e1] at h;cases h
 | some e=>rw[e1] at h;exact⟨e,rfl,(Option.some.inj h).symm⟩
theorem jYs {α:Type} {mask:List Bool} {g:TG3} {tif:TT3} {te:TE3} {τ:St3} {es:List α} {enc:α->T} {stay:Gp->Prop} {G:Gp} {Q:VK3} (f:α->Option T) (hz:es.length<=sizeLine) (hst:∀G',Sub G G'->stay G')
  (h:∀(i:Nat) e,es[i]? =some e->∀G' (K:T->Gp->Prop) (K0:Gp->Prop),Sub G G'->(∀y G4,f e=some y->Sub G' G4->K y G4)->(f e=none->∀G4,Sub G' G4->K0 G4)->g (enc e) (msk mask τ) G' fun τ2 G2=>tif τ2 G2 fun b G3=>if b=true then te τ2 G3 K else K0 G3)
  (hq:∀D G',G D=none->G' D=some (.lst (es.filterMap f))->Sub G G'->Q (.ref D) G'):jXz mask g tif te τ (es.map enc) stay G Q:=by
 intro D hD
 refine⟨fun i acc G'=>acc=(es.take i).filterMap f/\G' D=some (.lst acc)/\Sub G G',⟨by simp,jJg,.new hD⟩,?_,?_,?_⟩
 ·rintro i acc G' hi ⟨ea,eg,hs⟩
  exact⟨hst G' hs,eg⟩
 ·rintro i x acc G' hx0 ⟨ea,eg,hs⟩
  obtain⟨e,hx,rfl⟩:=jJ5 hx0
  have hi:i<es.length:=(List.getElem?_eq_some_iff.mp hx).1
  have tk:es.take (i+1)=es.take i++[e]:=by rw[List.take_succ,hx];rfl
  have hlen:acc.length<sizeLine:=by
   have h1:acc.length<=(es.take i).length:=by rw[ea];exact List.length_filterMap_le _ _
   rw[List.length_take] at h1;omega
  refine h i e hx G' _ _ hs (fun y G4 hy h4=>⟨h4 D _ eg,hlen,?_,jJg,(hs.trans h4).over hD⟩) fun hn G4 h4=>⟨?_,h4 D _ eg,hs.trans h4⟩
  ·rw[tk,List.filterMap_append,<-ea];simp[hy]
  ·rw[tk,List.filterMap_append,<-ea];simp[hn]
 ·rintro acc G' ⟨ea,eg,hs⟩
  rw[List.length_map,List.take_length] at ea
  rw[ea] at eg
  exact hq D G' hD eg hs
theorem jVs {α:Type} {mask:List Bool} {g:TG3} {tif:TT3} {te:TE3} {τ:St3} {es:List α} {enc:α->T} {stay:Gp->Prop} {G:Gp} {Q:VK3} (f:α->T) (hz:es.length<=sizeLine) (hst:∀G',Sub G G'->stay G')
  (h:∀(i:Nat) e,es[i]? =some e->∀G' (K:T->Gp->Prop) (K0:Gp->Prop),Sub G G'->(∀G4,Sub G' G4->K (f e) G4)->g (enc e) (msk mask τ) G' fun τ2 G2=>tif τ2 G2 fun b G3=>if b=true then te τ2 G3 K else K0 G3)
  (hq:∀D G',G D=none->G' D=some (.lst (es.map f))->Sub G G'->Q (.ref D) G'):jXz mask g tif te τ (es.map enc) stay G Q:=by
 refine jYs (fun e=>some (f e)) hz hst (fun i e he G' K K0 hs hk _=>h i e he G' K K0 hs fun G4 h4=>hk _ G4 rfl h4) fun D G' hD h1 h2=>hq D G' hD ?_ h2
 rw[h1];congr 2;induction es with
 | nil=>rfl
 | cons a as ih=>simp
theorem jUn {G:Gp} {p:Addr} {xs:List T} (h:G p=some (.lst xs)):tyT G "list" (.ref p)=True:=by simp[tyT,h]
theorem kKv {G:Gp} {p:Addr} {xs:List T}:tyT (gup G p (.lst xs)) "list" (.ref p)=True:=jUn jJg
theorem jXw {α:Type} {mask:List Bool} {g:TG3} {tif:TT3} {te:TE3} {τ:St3} {es:List α} {enc:α->T} {stay:Gp->Prop} {G:Gp} {Q:VK3} (f:α->List T) (hz:es.length<=sizeLine) (hst:∀G',Sub G G'->stay G')
  (h:∀(i:Nat) e,es[i]? =some e->∀G' (K:T->Gp->Prop) (K0:Gp->Prop),Sub G G'->(∀p G4,G' p=none->G4 p=some (.lst (f e))->Sub G' G4->K (.ref p) G4)->g (enc e) (msk mask τ) G' fun τ2 G2=>tif τ2 G2 fun b G3=>if b=true then te τ2 G3 K else K0 G3)
  (hq:∀D rs G',G D=none->G' D=some (.lst (rs.map T.ref))->Sub G G'->rs.length=es.length->(D::rs).Nodup->(∀(i:Nat) (r:Addr) (e:α),rs[i]? =some r->es[i]? =some e->G r=none/\G' r=some (.lst (f e)))->Q (.ref D) G'):jXz mask g tif te τ (es.map enc) stay G Q:=by
 intro D hD
 refine⟨fun i acc G'=>∃rs:List Addr,acc=rs.map T.ref/\rs.length=i/\G' D=some (.lst acc)/\Sub G G'/\(D::rs).Nodup/\(∀(i:Nat) (r:Addr) (e:α),rs[i]? =some r->es[i]? =some e->G r=none/\G' r=some (.lst (f e))),⟨[],rfl,rfl,jJg,.new hD,by simp,by simp⟩,?_,?_,?_⟩
 ·rintro i acc G' hi ⟨rs,ea,hl,eg,hs,hn,hr⟩
  exact⟨hst G' hs,eg⟩
 ·rintro i x acc G' hx0 ⟨rs,ea,hl,eg,hs,hn,hr⟩
  obtain⟨e,hx,rfl⟩:=jJ5 hx0
  have hi:i<es.length:=(List.getElem?_eq_some_iff.mp hx).1
  have hlen:acc.length<sizeLine:=by rw[ea,List.length_map];omega
  refine h i e hx G' _ _ hs fun p G4 hp h4 s4=>⟨s4 D _ eg,hlen,rs++[p],by simp[ea],by simp[hl],jJg,(hs.trans s4).over hD,?_,?_⟩
  ·have hDp:D≠p:=jJj eg hp
   have hpr:p∉rs:=by
    intro hm
    obtain⟨j,hj⟩:∃j:Nat,_:=List.getElem?_of_mem hm
    have hjl:j<rs.length:=(List.getElem?_eq_some_iff.mp hj).1
    have:=(hr j p es[j] hj (List.getElem?_eq_getElem (by omega))).2
    rw[hp] at this;cases this
   rw[List.nodup_cons] at hn
   simp only[List.nodup_cons,List.mem_append,List.mem_singleton,not_or,List.nodup_append,List.not_mem_nil,not_false_eq_true,List.nodup_nil,and_true]
   exact⟨⟨hn.1,hDp⟩,hn.2,trivial,fun a ha b hb=>by subst hb;rintro rfl;exact hpr ha⟩
  ·intro j r e' hj he'
   have hjl:j<rs.length+1:=by have:=(List.getElem?_eq_some_iff.mp hj).1;simpa using this
   by_cases hjr:j<rs.length
   ·rw[List.getElem?_append_left hjr] at hj
    obtain⟨q1,q2⟩:=hr j r e' hj he'
    have:r≠D:=by rintro rfl;exact (List.nodup_cons.mp hn).1 (List.mem_of_getElem? hj)
    exact⟨q1,by rw[jJp this];exact s4 _ _ q2⟩
   ·have hj2:j=rs.length:=by omega
    subst hj2
    rw[List.getElem?_append_right (Nat.le_refl _)] at hj
    simp at hj
    subst hj
    rw[hl,hx] at he';cases he'
    exact⟨hs.none hp,by rw[jJp (jJj eg hp).symm];exact h4⟩
 ·rintro acc G' ⟨rs,ea,hl,eg,hs,hn,hr⟩
  rw[ea] at eg
  exact hq D rs G' hD eg hs (by simpa using hl) hn hr
end L3
namespace L3
open PySem PySem.Spec PyProof.Rows L2
section
variable {X:Cx}
def rAddE:R3:=fun x y G Q=>∃ys,x= .tup []/\y= .tup ys/\Q (.tup ys) G
theorem o_addE:Op3 X (binaryOp .Add) rAddE:=by
 rintro pins s τ G H x y v u Q ⟨σ,I,hs,hg⟩ ⟨a,ra,rv⟩ ⟨b,rb,ru⟩ ⟨ys,ex,ey,q⟩
 subst ex;subst ey
 obtain⟨pa,vs,rfl,h1,r1⟩:=(show ∃p vs,a= .ref p/\H p=some (.tup vs)/\Reps X.K H [] vs from ra)
 obtain⟨pb,ws,rfl,h2,r2⟩:=(show ∃p vs,b= .ref p/\H p=some (.tup vs)/\Reps X.K H ys vs from rb)
 cases rv;cases ru
 obtain⟨its,q1,p1,_⟩:=I.tuple (.of h1)
 obtain⟨its2,q2,p2,_⟩:=I.tuple (.of h2)
 have e0:its.toArray.isEmpty=true:=by
  have e1:=r1.length
  have e2:=q1.length
  have:its=[]:=List.eq_nil_of_length_eq_zero (by simp at e1;omega)
  rw[this];rfl
 obtain⟨⟨cls,dd,data,sl⟩,ho,hc,n,hd⟩:=id p1
 obtain⟨⟨cls2,dd2,data2,sl2⟩,ho2,hc2,n2,hd2⟩:=id p2
 simp only at hc hd hc2 hd2
 subst hc hd hc2 hd2
 exact concat_meets ⟨_,ho,rfl⟩ ⟨_,ho2,rfl⟩ noFill_tuple_add seq_tuple_add PySem.F.slot_tuple_add PySem.F.entry_tuple_add (PySem.F.args_tuple_add_2 _ _) (tuple_addW0 pa pb its.toArray its2.toArray n n2 dd dd2 sl sl2 e0)
  ⟨ho,ho2,.tup ys,G,H,.refl H,⟨σ,I,hs,hg⟩,⟨.ref pb,⟨pb,ws,rfl,h2,r2⟩,rfl⟩,q⟩
def jYg:R3:=fun x y G Q=>jJ4 x y G Q\/rAddE x y G Q
theorem jXs:Op3 X (binaryOp .Add) jYg:=o_addF.or o_addE
end
theorem kUg {P:Program} {w:World} {A:Around} (hh:A.handled=none) (it t:Addr) (ne:t≠it) (xs:Array Value):Draws P w A it [it,t] xs.size (fun i v=>xs[i]? =some v) (fun i h=>OnTup it t i xs h) where
 live:=fun _ _ ⟨⟨o,ho,_⟩,_⟩=>⟨o,ho⟩
 frame:=fun _ _ _ ⟨⟨o,ho,r⟩,⟨q,hq,r'⟩⟩ k=>⟨⟨o,k it (by simp) o ho,r⟩,⟨q,k t (by simp) q hq,r'⟩⟩
 item:=fun i s Q E hi st hQ=>jQe hh ne s Q E st (fun x g e s' b=>hQ x g s.toks e s' b) fun _ _ _ e=>by rw[Array.getElem?_eq_getElem hi] at e;cases e
 done:=fun s Q E st hE=>jQe hh ne s Q E st (fun x _ e=>by rw[Array.getElem?_eq_none (Nat.le_refl _)] at e;cases e) fun g e o _ b he hc=>hE g e b ⟨o,he,hc⟩
def kJ1 (i:Addr):Obj:={cls:= .type "enumerate",data:= .fields #[.none,.bool false,.ref i,rawInt 0,.none,.none]}
theorem kXd (t:Addr) (xs:Array Value):
  Meets (Builtin.«enumerate.__new__» ⟨[.type "enumerate",.ref t],[]⟩) fun _ R s=>s.heap.IsTuple t xs/\R (.ok (.ret (.ref (s.heap.push (itOf t)).objs.size))) {s with heap:=(s.heap.push (itOf t)).push (kJ1 s.heap.objs.size)}:=by
 refine .of_wp fun P w A R s ⟨ht,h⟩=> ?_
 obtain⟨g,a1,a2,a3,a4⟩:=s
 have sb:=sub_enumerate
 have m1:Heap.IsTuple (Shared.heap ⟨g,a1,a2,a3,a4⟩) t xs:=ht
 obtain⟨⟨c,dct,dt,sl⟩,hl,hc,n,hd⟩:=id ht
 replace hc:c= .type "tuple":=hc
 replace hd:dt= .seq xs n:=hd
 subst hc hd
 wp_walk using AutoSeq1.wpAny_loadPart' hl
 refine wpAny_stack_any (fun stk=>wpAny_pure ?_)
 split
 ·rename_i k _ _ _ _ _
  cases (k == Value.type "enumerate")<;>(wp_walk using AutoSeq1.wpAny_loadPart' hl,wpAny_pyIter_tuple m1;exact⟨_,rfl,h⟩)
 ·wp_walk using AutoSeq1.wpAny_loadPart' hl,wpAny_pyIter_tuple m1;exact⟨_,rfl,h⟩
theorem kUf {P:Program} {w:World} {A:Around} {s:Shared} {t:Addr} {xs:Array Value} {Q E:Value->Shared->Prop} (ht:s.heap.IsTuple t xs)
  (h:∀g n,n=s.heap.objs.size->IsEnum g (n+1) n 0 .none->OnTup n t 0 xs g->(∀c o,s.heap.get? c=some o->g.get? c=some o)->Q (.ref (n+1)) {s with heap:=g}):wpAny (model P w) A (call (.type "enumerate") [.ref t]) Q E s:=by
 refine callType_new F.called_enumerate (by decide) (F.typeCall_enumerate_1 _) (F.newCall_enumerate_1 _) (fun obj=>F.args_object_init_2 obj _) F.entry_enumerate_new (kXd t xs) ⟨ht,?_⟩
 have hn:∀(g:Heap) (o:Obj),(g.push o).objs.size=g.objs.size+1:=fun _ _=>Heap.size_push ..
 have up:∀ {g:Heap} {o q:Obj} {c:Addr},g.get? c=some q->(g.push o).get? c=some q:=fun e=>Heap.get?_push_of_some _ e
 obtain⟨q,hq,hr⟩:=ht
 have c0:((s.heap.push (itOf t)).push (kJ1 s.heap.objs.size)).get? s.heap.objs.size=some (itOf t):=up (Heap.get?_push_size _ rfl)
 have c1:((s.heap.push (itOf t)).push (kJ1 s.heap.objs.size)).get? (s.heap.push (itOf t)).objs.size=some (kJ1 s.heap.objs.size):=Heap.get?_push_size _ rfl
 show _/\_
 simp only[hn] at c1 ⊢
 exact⟨⟨_,c1,rfl⟩,h _ _ rfl c1 ⟨⟨_,c0,rfl,rfl⟩,q,up (up hq),hr⟩ fun c o e=>up (up e)⟩
theorem jQd {P:Program} {w:World} {A:Around} {s:Shared} {e it t:Addr} {i:Int} {k:Nat} {old:Value} {xs:Array Value} {Q:Option Value->Shared->Prop} {E:Value->Shared->Prop} (hh:A.handled=none) (ne:t≠it) (he:IsEnum s.heap e it i old) (st:OnTup it t k xs s.heap) (hk:xs.size<=k)
  (hQ:∀g,Heap.ExtBut it s.heap g->Q none {s with heap:=g}):wpAny (model P w) A (pyNext (.ref e)) Q E s:=by
 have ty:s.TypeIs (.ref e) "enumerate":=⟨_,he,rfl⟩
 refine wpAny_bind (wpAny_attempt (wpAny_callSpecial?_slot (name:=Str.ofString "__next__") ty F.slot_enumerate_next (wpAny_call_entry F.slot_enumerate_next ty F.entry_enumerate_next ?_ (F.args_enumerate_next_1 _))))
 refine (show wpAny _ _ (field (.ref e) 2 >>= _) _ _ _ from wpAny_bind (wpAny_field he rfl (x:= .ref it) rfl (wpAny_bind ?_)))
 refine jQe (A:=A.in1) hh ne s _ _ st (fun x _ e=>by rw[Array.getElem?_eq_none hk] at e;cases e) fun g x o _ b hx hc=> ?_
 exact wpAny_bind (wpAny_isInstance (T:="StopIteration") (b:=true) ⟨o,hx,hc⟩ isSubtype_stop (wpAny_pure (hQ g b)))
noncomputable def Itn (K:PySem.W.Frag) (a:Addr):It:=
 ⟨fun i H=>∃xs x,SqT K H a xs/\xs[i]? =some x,fun i H x H'=>∃p y,H p=none/\x= .ref p/\(∀xs,SqT K H a xs->xs[i]? =some y)/\H'=upd H p (.tup [.int i,y]),fun i H=>∃xs,SqT K H a xs/\xs.length<=i⟩
theorem kJ0 {h:Heap} {a e it:Addr} {i:Int} {old:Value} {k:Nat} {xs:Array Value} (he:IsEnum h e it i old) (hi:h.IsTupleIter it a k) (ht:h.IsTuple a xs):a≠it/\e∉[it,a]:=by
 obtain⟨o,ho,hc,_⟩:=hi
 obtain⟨q,hq,hqc,_⟩:=ht
 refine⟨fun z=> ?_,fun m=> ?_⟩
 ·subst z;rw[ho] at hq;cases hq;rw[hc] at hqc;simp at hqc
 ·simp only[List.mem_cons,List.not_mem_nil,or_false] at m
  rcases m with rfl | rfl
  ·rw[he] at ho;cases ho;simp at hc
  ·rw[he] at hq;cases hq;simp at hqc
theorem kKa {P:Program} {w:World} {K:PySem.W.Frag} {elts:List Expr} {k:Nat} {pos:Pos} (a e it:Addr) (hei:e≠it):
  Turn P w K (.Tuple elts k pos) (Itn K a) [e,it] e (fun i h=>(∃old,IsEnum h e it i old)/\h.IsTupleIter it a i) where
 mem:=List.mem_cons_self ..
 obj:=fun i h ⟨⟨old,h1⟩,h2⟩ b hb=>by
  simp only[List.not_mem_nil,List.mem_cons,or_false] at hb
  rcases hb with rfl | rfl
  ·exact⟨_,h1,fun v z=>nomatch (show Data.fields _=Data.cell v from z)⟩
  ·obtain⟨o,e2,c,d⟩:=h2
   exact⟨o,e2,fun v z=>by rw[d] at z;cases z⟩
 keep:=fun i h h' ⟨⟨old,h1⟩,h2⟩ kp=>⟨⟨old,kp e (by simp) _ h1⟩,h2.at fun o q=>kp it (by simp) o q⟩
 item:=by
  rintro X hP hw hK hc i pins s σ H E I hf ⟨⟨old,he⟩,hit⟩ ⟨xs,x,hq,hx⟩
  subst hP hw hK
  obtain⟨its,rv,p,hz⟩:=I.tuple hq
  obtain⟨u,hu,ru⟩:=rv.get hx
  have p':s.heap.IsTuple a its.toArray:=p
  obtain⟨nei,hef⟩:=kJ0 he hit p'
  have hlt:i<its.toArray.size:=by simpa using (List.getElem?_eq_some_iff.mp hu).1
  refine wpAny_pyNext_enum_itemD (kUg (A:=X.A.in1) (I.ok.hd hc) it a nei its.toArray) he ⟨hit,p'⟩ hlt hei hef fun x' h1 tk hx' ho hit1 hT hsz hk=> ?_
  obtain rfl:u=x':=by simpa[hu] using hx'
  refine⟨_,rfl,wpAny_letOwnedTupleGo_enum ho fun h2 he2 hs2=> ?_⟩
  have hel:e<s.heap.objs.size:=Heap.lt_size he
  have hp2:∀b o,b∉[e,it]->s.heap.get? b=some o->h2.get? b=some o:=fun b o hb q=>by
   simp only[List.mem_cons,List.not_mem_nil,or_false,not_or] at hb
   exact (hs2.2 b hb.1).trans (hk b o hb.1 hb.2 q)
  have hT2:h2.get? s.heap.objs.size=some {cls:= .type "tuple",data:= .seq #[.int i tk,u]}:=(hs2.2 _ (Nat.ne_of_gt hel)).trans hT
  have I2:=jVw (t':=tk+1) (h':=h2) (p:=s.heap.objs.size) (vs:=[.int i,x]) (us:=[.int i tk,u]) I hp2 hf (Nat.le_refl _) ⟨_,hT2,rfl,_,rfl,rfl⟩ (.cons ⟨_,rfl⟩ (.cons ru .nil)) (by show 2<=sizeLine;decide)
  refine⟨.ref s.heap.objs.size,_,I2,rfl,⟨_,x,I.hok.fresh (Nat.le_refl _),rfl,fun ys hy=>by rw[I.tuple_inj hy hq];exact hx,rfl⟩,⟨⟨u,by simpa using he2⟩,hit1.1.at fun o q=>(hs2.2 it hei.symm).trans q⟩,fun b hb=> ?_⟩
  have hbs:∃o,s.heap.get? b=some o:=by
   have hb':=hb
   simp only[List.not_mem_nil,List.mem_cons,or_false] at hb'
   rcases hb' with rfl | rfl
   ·exact⟨_,he⟩
   ·obtain⟨o,q,_⟩:=hit;exact⟨o,q⟩
  obtain⟨o,q⟩:=hbs
  rw[jJr (Nat.ne_of_lt (Heap.lt_size q))]
  exact (hf b hb).1
 done:=by
  rintro X hP hw hK hc i pins s σ H E I hf ⟨⟨old,he⟩,hit⟩ ⟨xs,hq,hx⟩
  subst hP hw hK
  obtain⟨its,rv,p,hz⟩:=I.tuple hq
  have p':s.heap.IsTuple a its.toArray:=p
  obtain⟨nei,hef⟩:=kJ0 he hit p'
  have hl:=rv.length
  refine jQd (I.ok.hd hc) nei he ⟨hit,p'⟩ (by simp;omega) fun h1 hx1=>⟨rfl,jZt (t':=s.toks) I (fun b o hb q=>hx1 b o (fun z=>hb (by simp[z])) q) hf⟩
 self:=fun _ _ _ _ _ ⟨⟨old,he⟩,_⟩ h=>wpAny_pyIter_enum he h
def iEnT (ta:TA3):TI3:=fun τ G R=>ta τ G fun vs G1=>∃xs,vs=[.tup xs]/\R (numT xs) (fun _=>True) G1
theorem jZ6 {X:Cx} {elts:List Expr} {k:Nat} {tpos pos p:Pos} {a:Expr} {ta:TA3} (hg:Gl X "enumerate") (hm:X.mg "enumerate"=none) (hv:bootBuiltins "enumerate"=some (.type "enumerate")) (ha:PA3 X [a] ta) (hs:starEach [a] X.env=[(false,eval a X.env)]:=by rfl):
  PI3 X (.Tuple elts k tpos) (.Call (.Name "enumerate" p) [a] [] pos) (iEnT ta):=by
 intro pins s τ G H R I h
 obtain⟨σ0,I0,_,_⟩:=id I
 refine Call_ (jUf I0 hg hm hv (PyProof.Rows.callWith_type1 (thn (ha pos pins s τ G H _ I h) fun us s1 w_=>w_.el fun xs' G1 H1 e1 i_ r_ q1=>i_.el fun σ I1 hs1 hg1=>r_.el fun as ras rvs=> ?_) hs rfl))
 obtain⟨xs,e,q⟩:=q1
 subst e
 obtain⟨v,rfl,rv⟩:=jVg ras
 obtain⟨u,rfl,ru⟩:=rvs.one
 obtain⟨pa,vs,rfl,hq,r⟩:=(show ∃p vs,v= .ref p/\H1 p=some (.tup vs)/\Reps X.K H1 xs vs from rv)
 cases ru
 obtain⟨its,rvv,pl,hz⟩:=I1.tuple (.of hq)
 refine kUf (show s1.heap.IsTuple pa its.toArray from pl) fun h1 n hn he hit hk=> ?_
 subst hn
 have I2:Inv X pins σ H1 {s1 with heap:=h1}:=I1.kept (t':=s1.toks) hk
 refine wpAny_pyIter_enum (Q:=PIE3 X pins τ H (.Tuple elts k tpos) R) he ?_
 have fr:∀b∈[s1.heap.objs.size+1,s1.heap.objs.size],FpOk X pins H1 b:=fun b hb=>by
  simp only[List.not_mem_nil,List.mem_cons,or_false] at hb
  have hle:s1.heap.objs.size<=b:=by omega
  exact I1.fpOk hle (I1.hok.fresh hle)
 refine⟨s1.heap.objs.size+1,[s1.heap.objs.size+1,s1.heap.objs.size],_,_,numT xs,fun _=>True,G1,H1,rfl,e1,⟨σ,I2,hs1,hg1⟩,kKa pa _ _ (Nat.succ_ne_self _),⟨⟨.none,he⟩,hit.1⟩,fr,?_,q⟩
 intro i H2 G2 e2 g2 _
 obtain⟨pb,ws,eb,h1',h2⟩:=(show ∃p vs,V.ref pa= .ref p/\H2 p=some (.tup vs)/\Reps X.K H2 xs vs from Rep.mono e2 _ rv)
 cases eb
 have hlen:=h2.length
 refine⟨fun hi=> ?_,fun hi=>⟨ws,.of h1',by rw[jKd] at hi;omega⟩,fun hi y H' ⟨pp,z,hn,ey,hy,eH⟩=> ?_⟩
 ·rw[jKd] at hi
  exact⟨ws,ws[i]'(by omega),.of h1',by simp[hlen▸hi]⟩
 ·subst ey;subst eH
  obtain⟨t,ht,rt⟩:=h2.get' (hy ws (.of h1'))
  exact⟨.upd (.none hn),g2.tupNew hn,_,jYh ht,Rep.tupNew ⟨_,_,rfl,rfl,_,_,rfl,rt,rfl⟩ hn⟩
section
variable {X:Cx}
noncomputable def kK1 (tk tv:TE3):TE3:=fun τ G Q=>∀p,G p=none->tk τ (gup G p (.dck [])) fun x G1=>tv τ G1 fun y G2=>∃k,jU0 x=some k/\G2 p=some (.dck [])/\Q (.ref p) (gup G2 p (.dck [(k,y)]))
theorem kZg {pos:Pos} {k v:Expr} {tk tv:TE3} (hk:PE3 X k tk) (hv:PE3 X v tv):PE3 X (.Dict [some k] [v] pos) (kK1 tk tv):=by
 rintro pins s τ G H Q ⟨σ,I,hs,hg⟩ h
 have hn:=I.hok.fresh (Nat.le_refl s.heap.objs.size)
 have I1:=I.laid (a:=s.heap.objs.size) (o:= .dK []) (h':=s.heap.push {cls:= .type "dict",data:= .dict #[]}) (t':=s.toks) (fun _ _ q=>Heap.get?_push_of_some _ q) (Nat.le_refl _) (kJ2 s.heap I.big)
 have I3:Inv3 X pins τ (gup G s.heap.objs.size (.dck [])) (upd H s.heap.objs.size (.dK [])) {s with heap:=s.heap.push {cls:= .type "dict",data:= .dict #[]},toks:=s.toks}:=
  ⟨σ,I1,hs.mono (.upd (.none hn)),hg.upd (.none hn) (go:= .dck []) ⟨[],jJ1,.nil⟩⟩
 refine wpAny_Dict_walk (knd:=jJ2 X.prog X.w) rfl rfl (by simp) (by simp) (pairTrees_cons_walk (thn (hk pins _ τ _ _ _ I3 (h _ (hg.fresh hn))) fun u s1 w_=>w_.el fun x G1 H1 e1 J1 ru q1=>thn (hv pins s1 τ G1 H1 _ J1 q1) fun u2 s2 w_=>w_.el fun y G2 H2 e2 i_ ru2 ⟨key,hkey,hd,q2⟩=>i_.el fun σ2 J2 hs2 hg2=>pairTrees_nil_walk ?_))
 obtain⟨ws,hH2,pk⟩:=(show ∃ws,H2 s.heap.objs.size=some (.dK ws)/\PKV X.K H2 [] ws from hg2 _ _ hd)
 cases pk
 obtain⟨a,ra,rva⟩:=ru.mono e2
 obtain⟨c,rc,rvc⟩:=ru2
 obtain rfl:=jUg hkey ra
 obtain⟨rs,cr,rk⟩:=jXy (P:=X.prog) (w:=X.w) (kvs:=[(key,c)]) (ws:=[(u,u2)]) (.cons ⟨rva,rvc⟩ .nil)
 obtain⟨z,hdd,vs0,r0,dd⟩:=dk_of J2.hok hH2
 cases r0
 refine⟨rs,cr,dd,fun h' dd' hsb=> ?_⟩
 have he:∃q,h'.get? s.heap.objs.size=some q:=let ⟨q,_,_,hq,_⟩:=dd';⟨q,hq⟩
 have JJ:=kJb (t':=s2.toks+[(u,u2)].length) J2 (by rw[hH2];exact True.intro) hsb he (kX1 (kvs:=[(key,c)]) (by rw[sizeLine_eq];exact Nat.succ_le_of_lt (Nat.succ_pos _)) hdd (rk.merge .nil) dd')
 have ext:Ext H2 (upd H2 s.heap.objs.size (.dK [(key,c)])):= .upd (.dK hH2)
 exact⟨.ref s.heap.objs.size,_,_,(((Ext.upd (.none hn)).trans e1).trans e2).trans ext,⟨σ2,JJ,hs2.mono ext,hg2.upd (.dK hH2) (go:= .dck [(key,y)]) ⟨_,jJ1,PKV.put (kvs:=[]) .nil key (Rep.mono ext _ rc)⟩⟩,⟨.ref _,rfl,rfl⟩,q2⟩
end
section
variable {X:Cx}
end
end L3
namespace L3
open PySem PySem.Spec PyProof.Rows L2 MeetsSeq
section
variable {X:Cx}
end
end L3
namespace L3
open PySem PySem.Spec PyProof.Rows L2
section
variable {X:Cx}
end
section
variable {X:Cx}
end
section
variable {P:Program} {w:World} {A:Around} {E:Value->Shared->Prop} {s:Shared} {d:Addr}
theorem jVc {o:Obj} {es:Array DictEntry} {ep:Nat} {Q:Value->Shared->Prop} (hd:(d == sysModules)=false) (ho:s.heap.get? d=some o) (hc:o.ExactDict) (hx:o.data= .dict es ep) (hz:es.size<=sizeLine)
  (h:Q (.int es.size (s.toks+1)) {s with toks:=s.toks+1+1}):wpAny (model P w) A (call (.builtin "len") [.ref d]) Q E s:=by
 have hsl:=sizeLine_eq
 have ty:s.TypeIs (.ref d) "dict":=⟨o,ho,hc.1⟩
 refine Calls.call_function_entry kind_len plain_len entry_len (args_len1 _) ?_;unfold Builtin.«len»; refine wpAny_bind (m:=oneArg "len" _) (wpAny_pure ?_)
 have M:MeetsIn P w (Builtin.«dict.__len__» ⟨[.ref d],[]⟩) (fun _ R z=>(∃o es ep,z.heap.get? d=some o/\o.data= .dict es ep/\R (.ok (.ret (.int es.size z.toks))) {z with toks:=z.toks+1})):=
  .of_wp fun A R z ⟨o,es,ep,ho,hx,h⟩=>by
   refine (show wpAny _ _ (dictSize d >>= _) _ _ z from ?_)
   unfold dictSize;refine wpAny_bind (wpAny_bind (wpAny_dictEntries ho hx (wpAny_pure ?_)))
   refine (show wpAny _ _ (Builtin.Dict.pendingCount d >>= _) _ _ z from wpAny_bind (wpAny_pendingCount_other hd (wpAny_ret_mkInt ?_)))
   rw[Nat.add_zero];exact h
 refine wpAny_bind (m:=callSpecial? (.ref d) (Str.ofString "__len__")) (wpAny_callSpecial?_slot (name:=Str.ofString "__len__") ty F.slot_dict_len (call_meetsIn F.slot_dict_len ty F.entry_dict_len (F.args_dict_len_1 _) M ⟨o,es,ep,ho,hx,?_⟩))
 refine (show wpAny _ _ _ _ _ {s with toks:=s.toks+1} from wpAny_bind (wpAny_holding (wpAny_pure (wpAny_bind (wpAny_letGo ?_)))))
 refine (show wpAny _ _ (if ((es.size:Nat):Int)<0 then _ else _) _ _ _ from ?_);rw[if_neg (by omega)]
 refine (show wpAny _ _ (if ((es.size:Nat):Int)>=2^63 then _ else _) _ _ _ from ?_);rw[if_neg (by omega)]
 exact (wpAny_bind (wpAny_mkInt (wpAny_pure ⟨_,rfl,h⟩)))
end
section
variable {X:Cx}
noncomputable def lenG (G:Gp):T->Option Nat
 | .ref p=>match G p with
  | some (.lst xs)=>some xs.length
  | some (.dct kvs)=>some kvs.length
  | some (.dck kvs)=>some kvs.length
  | some (.fdc _)=>none
  | some (.ins _ _)=>none
  | some (.exc _)=>none
  | none=>none
 | .tup xs=>some xs.length
 | .scr xs=>some xs.length
 | _=>none
def kVk:List T->Gp->VK3->Prop:=fun xs G Q=>∃x n,xs=[x]/\lenG G x=some n/\Q (.int (n:Nat)) G
theorem kX2:Call3 X (.builtin "len") kVk:=by
 rintro pins s τ G H xs us Q I rs ⟨x,n,ex,hx,q⟩
 by_cases hd:∃p,x= .ref p/\((∃kvs,G p=some (.dct kvs))\/∃kvs,G p=some (.dck kvs))
 ·subst ex
  obtain⟨p,rfl,hk⟩:=hd
  obtain⟨σ,I,hs,hg⟩:=I
  obtain⟨as,ras,rvs⟩:=rs
  obtain⟨v,rfl,rv⟩:=jVg ras
  obtain⟨u,rfl,ru⟩:=rvs.one
  cases (show v= .ref p from rv);cases ru
  rcases hk with ⟨kvs,hG⟩ | ⟨kvs,hG⟩
  ·simp only[lenG,hG] at hx;cases hx
   obtain⟨ws,h1,h2⟩:=hg p _ hG
   obtain⟨z,y,xs,r,o,es,ep,e1,e2,e3,e4,e5⟩:=(show ObjOk X.prog X.w H s.heap p (.dT ws) from I.hok p _ h1)
   have l1:es.size=kvs.length:=by
    have a1:=congrArg List.length e4
    have a2:=Paired.length r
    have a3:=h2.length
    simp at a1;omega
   refine jVc y e1 e2 e3 (by have:=h2.length;omega) ?_
   rw[l1]
   exact⟨.int (kvs.length:Nat),G,H,.refl H,⟨σ,I.tok _,hs,hg⟩,⟨.int _,rfl,_,rfl⟩,q⟩
  ·simp only[lenG,hG] at hx;cases hx
   obtain⟨ws,h1,h2⟩:=hg p _ hG
   obtain⟨z,y,vs,rel,o,es,ep,e1,e2,e3,e4,e5,e6⟩:=(show ObjOk X.prog X.w H s.heap p (.dK ws) from I.hok p _ h1)
   have l1:es.size=kvs.length:=by
    have a1:=e5.length
    have a2:=rel.length
    have a3:=h2.length
    simp at a1;omega
   refine jVc y e1 e2 e3 (by have:=h2.length;omega) ?_
   rw[l1]
   exact⟨.int (kvs.length:Nat),G,H,.refl H,⟨σ,I.tok _,hs,hg⟩,⟨.int _,rfl,_,rfl⟩,q⟩
 ·refine jQl pins s τ G H xs us Q I rs ?_
  cases x with
  | ref p=>
   cases hG:G p with
   | none=>simp only[lenG,hG] at hx;cases hx
   | some g=>
    cases g with
    | lst ys=>simp only[lenG,hG] at hx;cases hx;exact⟨_,ys,ex,by simp only[seqT,hG,asL],q⟩
    | dct kvs=>exact absurd ⟨p,rfl,.inl ⟨kvs,hG⟩⟩ hd
    | fdc kvs=>simp only[lenG,hG] at hx;cases hx
    | ins _ _=>simp only[lenG,hG] at hx;cases hx
    | exc _=>simp only[lenG,hG] at hx;cases hx
    | dck kvs=>exact absurd ⟨p,rfl,.inr ⟨kvs,hG⟩⟩ hd
  | tup ys=>cases hx;exact⟨_,ys,ex,rfl,q⟩
  | scr ys=>cases hx;exact⟨_,ys,ex,rfl,q⟩
  | non=>cases hx
  | bl _=>cases hx
  | int _=>cases hx
  | str _=>cases hx
  | ty _=>cases hx
end
section
variable {X:Cx}
def kYh:List T->Gp->VK3->Prop:=fun xs G Q=>∃i j,xs=[.int i,.int j]/\Q (.int (if j<i then j else i)) G
theorem c_min2 (hc:X.calm=true):Call3 X (.builtin "min") kYh:=
 Call3.of (kUp hc) fun H G xs as Q hg ra ⟨i,j,e,q⟩=>by
  subst e
  obtain⟨v,w,rfl,rv,rw'⟩:=kKb ra
  cases (show v= .int i from rv);cases (show w= .int j from rw')
  exact⟨i,j,rfl,.int _,G,.refl H,hg,rfl,q⟩
theorem jQn:∀ {is:List Int} {us:List Value},Vals (is.map V.int) us->∃ps:List (Int×Tok),us=ps.map (fun p=> .int p.1 p.2)/\ps.map (·.1)=is
 | [],_,.nil=>⟨[],rfl,rfl⟩
 | i::is,_,.cons ⟨t,e⟩ r=>by
  obtain⟨ps,e1,e2⟩:=jQn r
  subst e1;subst e2;subst e
  exact⟨(i,t)::ps,rfl,rfl⟩
end
section
variable {X:Cx}
end
section
variable {X:Cx}
end
section
variable {X:Cx} {pos:Pos}
end
theorem szle {n:Nat} (h:Nat.ble n 16777216=true):n<=sizeLine:=by rw[PySem.sizeLine_eq];exact Nat.le_of_ble_eq_true h
end L3
namespace L3
theorem xe1 {A0:Type} {σ:Type} {f:A0->σ} {p:A0->Prop} {τ:σ} {C:σ->Prop} (h:∃a0,τ=f a0/\p a0) (k:∀a0,p a0->C (f a0)):C τ:=by
 obtain⟨a0,e,h⟩:=h;rw[e];exact k _ h
theorem xe2 {A0 A1:Type} {σ:Type} {f:A0->A1->σ} {p:A0->A1->Prop} {τ:σ} {C:σ->Prop} (h:∃a0 a1,τ=f a0 a1/\p a0 a1) (k:∀a0 a1,p a0 a1->C (f a0 a1)):C τ:=by
 obtain⟨a0,a1,e,h⟩:=h;rw[e];exact k _ _ h
theorem xi2 {A0 A1:Type} {σ:Type} {f:A0->A1->σ} {p:A0->A1->Prop} {τ:σ} (a0:A0) (a1:A1) (e:τ=f a0 a1) (h:p a0 a1):∃a0 a1,τ=f a0 a1/\p a0 a1:=⟨a0,a1,e,h⟩
theorem xe3 {A0 A1 A2:Type} {σ:Type} {f:A0->A1->A2->σ} {p:A0->A1->A2->Prop} {τ:σ} {C:σ->Prop} (h:∃a0 a1 a2,τ=f a0 a1 a2/\p a0 a1 a2) (k:∀a0 a1 a2,p a0 a1 a2->C (f a0 a1 a2)):C τ:=by
 obtain⟨a0,a1,a2,e,h⟩:=h;rw[e];exact k _ _ _ h
theorem xi3 {A0 A1 A2:Type} {σ:Type} {f:A0->A1->A2->σ} {p:A0->A1->A2->Prop} {τ:σ} (a0:A0) (a1:A1) (a2:A2) (e:τ=f a0 a1 a2) (h:p a0 a1 a2):∃a0 a1 a2,τ=f a0 a1 a2/\p a0 a1 a2:=⟨a0,a1,a2,e,h⟩
theorem xe4 {A0 A1 A2 A3:Type} {σ:Type} {f:A0->A1->A2->A3->σ} {p:A0->A1->A2->A3->Prop} {τ:σ} {C:σ->Prop} (h:∃a0 a1 a2 a3,τ=f a0 a1 a2 a3/\p a0 a1 a2 a3) (k:∀a0 a1 a2 a3,p a0 a1 a2 a3->C (f a0 a1 a2 a3)):C τ:=by
 obtain⟨a0,a1,a2,a3,e,h⟩:=h;rw[e];exact k _ _ _ _ h
theorem xi4 {A0 A1 A2 A3:Type} {σ:Type} {f:A0->A1->A2->A3->σ} {p:A0->A1->A2->A3->Prop} {τ:σ} (a0:A0) (a1:A1) (a2:A2) (a3:A3) (e:τ=f a0 a1 a2 a3) (h:p a0 a1 a2 a3):∃a0 a1 a2 a3,τ=f a0 a1 a2 a3/\p a0 a1 a2 a3:=⟨a0,a1,a2,a3,e,h⟩
theorem xe5 {A0 A1 A2 A3 A4:Type} {σ:Type} {f:A0->A1->A2->A3->A4->σ} {p:A0->A1->A2->A3->A4->Prop} {τ:σ} {C:σ->Prop} (h:∃a0 a1 a2 a3 a4,τ=f a0 a1 a2 a3 a4/\p a0 a1 a2 a3 a4) (k:∀a0 a1 a2 a3 a4,p a0 a1 a2 a3 a4->C (f a0 a1 a2 a3 a4)):C τ:=by
 obtain⟨a0,a1,a2,a3,a4,e,h⟩:=h;rw[e];exact k _ _ _ _ _ h
theorem xi5 {A0 A1 A2 A3 A4:Type} {σ:Type} {f:A0->A1->A2->A3->A4->σ} {p:A0->A1->A2->A3->A4->Prop} {τ:σ} (a0:A0) (a1:A1) (a2:A2) (a3:A3) (a4:A4) (e:τ=f a0 a1 a2 a3 a4) (h:p a0 a1 a2 a3 a4):∃a0 a1 a2 a3 a4,τ=f a0 a1 a2 a3 a4/\p a0 a1 a2 a3 a4:=⟨a0,a1,a2,a3,a4,e,h⟩
theorem xe6 {A0 A1 A2 A3 A4 A5:Type} {σ:Type} {f:A0->A1->A2->A3->A4->A5->σ} {p:A0->A1->A2->A3->A4->A5->Prop} {τ:σ} {C:σ->Prop} (h:∃a0 a1 a2 a3 a4 a5,τ=f a0 a1 a2 a3 a4 a5/\p a0 a1 a2 a3 a4 a5) (k:∀a0 a1 a2 a3 a4 a5,p a0 a1 a2 a3 a4 a5->C (f a0 a1 a2 a3 a4 a5)):C τ:=by
 obtain⟨a0,a1,a2,a3,a4,a5,e,h⟩:=h;rw[e];exact k _ _ _ _ _ _ h
theorem xe7 {A0 A1 A2 A3 A4 A5 A6:Type} {σ:Type} {f:A0->A1->A2->A3->A4->A5->A6->σ} {p:A0->A1->A2->A3->A4->A5->A6->Prop} {τ:σ} {C:σ->Prop} (h:∃a0 a1 a2 a3 a4 a5 a6,τ=f a0 a1 a2 a3 a4 a5 a6/\p a0 a1 a2 a3 a4 a5 a6) (k:∀a0 a1 a2 a3 a4 a5 a6,p a0 a1 a2 a3 a4 a5 a6->C (f a0 a1 a2 a3 a4 a5 a6)):C τ:=by
 obtain⟨a0,a1,a2,a3,a4,a5,a6,e,h⟩:=h;rw[e];exact k _ _ _ _ _ _ _ h
theorem xi7 {A0 A1 A2 A3 A4 A5 A6:Type} {σ:Type} {f:A0->A1->A2->A3->A4->A5->A6->σ} {p:A0->A1->A2->A3->A4->A5->A6->Prop} {τ:σ} (a0:A0) (a1:A1) (a2:A2) (a3:A3) (a4:A4) (a5:A5) (a6:A6) (e:τ=f a0 a1 a2 a3 a4 a5 a6) (h:p a0 a1 a2 a3 a4 a5 a6):∃a0 a1 a2 a3 a4 a5 a6,τ=f a0 a1 a2 a3 a4 a5 a6/\p a0 a1 a2 a3 a4 a5 a6:=⟨a0,a1,a2,a3,a4,a5,a6,e,h⟩
theorem xe8 {A0 A1 A2 A3 A4 A5 A6 A7:Type} {σ:Type} {f:A0->A1->A2->A3->A4->A5->A6->A7->σ} {p:A0->A1->A2->A3->A4->A5->A6->A7->Prop} {τ:σ} {C:σ->Prop} (h:∃a0 a1 a2 a3 a4 a5 a6 a7,τ=f a0 a1 a2 a3 a4 a5 a6 a7/\p a0 a1 a2 a3 a4 a5 a6 a7) (k:∀a0 a1 a2 a3 a4 a5 a6 a7,p a0 a1 a2 a3 a4 a5 a6 a7->C (f a0 a1 a2 a3 a4 a5 a6 a7)):C τ:=by
 obtain⟨a0,a1,a2,a3,a4,a5,a6,a7,e,h⟩:=h;rw[e];exact k _ _ _ _ _ _ _ _ h
theorem xe10 {A0 A1 A2 A3 A4 A5 A6 A7 A8 A9:Type} {σ:Type} {f:A0->A1->A2->A3->A4->A5->A6->A7->A8->A9->σ} {p:A0->A1->A2->A3->A4->A5->A6->A7->A8->A9->Prop} {τ:σ} {C:σ->Prop} (h:∃a0 a1 a2 a3 a4 a5 a6 a7 a8 a9,τ=f a0 a1 a2 a3 a4 a5 a6 a7 a8 a9/\p a0 a1 a2 a3 a4 a5 a6 a7 a8 a9) (k:∀a0 a1 a2 a3 a4 a5 a6 a7 a8 a9,p a0 a1 a2 a3 a4 a5 a6 a7 a8 a9->C (f a0 a1 a2 a3 a4 a5 a6 a7 a8 a9)):C τ:=by
 obtain⟨a0,a1,a2,a3,a4,a5,a6,a7,a8,a9,e,h⟩:=h;rw[e];exact k _ _ _ _ _ _ _ _ _ _ h
theorem xi10 {A0 A1 A2 A3 A4 A5 A6 A7 A8 A9:Type} {σ:Type} {f:A0->A1->A2->A3->A4->A5->A6->A7->A8->A9->σ} {p:A0->A1->A2->A3->A4->A5->A6->A7->A8->A9->Prop} {τ:σ} (a0:A0) (a1:A1) (a2:A2) (a3:A3) (a4:A4) (a5:A5) (a6:A6) (a7:A7) (a8:A8) (a9:A9) (e:τ=f a0 a1 a2 a3 a4 a5 a6 a7 a8 a9) (h:p a0 a1 a2 a3 a4 a5 a6 a7 a8 a9):∃a0 a1 a2 a3 a4 a5 a6 a7 a8 a9,τ=f a0 a1 a2 a3 a4 a5 a6 a7 a8 a9/\p a0 a1 a2 a3 a4 a5 a6 a7 a8 a9:=⟨a0,a1,a2,a3,a4,a5,a6,a7,a8,a9,e,h⟩
theorem ae2 {a0 a1 C:Prop} (h:a0/\a1) (k:a0->a1->C):C:=k h.1 h.2
theorem ae3 {a0 a1 a2 C:Prop} (h:a0/\a1/\a2) (k:a0->a1->a2->C):C:=k h.1 h.2.1 h.2.2
theorem ae4 {a0 a1 a2 a3 C:Prop} (h:a0/\a1/\a2/\a3) (k:a0->a1->a2->a3->C):C:=k h.1 h.2.1 h.2.2.1 h.2.2.2
theorem ae5 {a0 a1 a2 a3 a4 C:Prop} (h:a0/\a1/\a2/\a3/\a4) (k:a0->a1->a2->a3->a4->C):C:=k h.1 h.2.1 h.2.2.1 h.2.2.2.1 h.2.2.2.2
theorem ae6 {a0 a1 a2 a3 a4 a5 C:Prop} (h:a0/\a1/\a2/\a3/\a4/\a5) (k:a0->a1->a2->a3->a4->a5->C):C:=k h.1 h.2.1 h.2.2.1 h.2.2.2.1 h.2.2.2.2.1 h.2.2.2.2.2
theorem ae7 {a0 a1 a2 a3 a4 a5 a6 C:Prop} (h:a0/\a1/\a2/\a3/\a4/\a5/\a6) (k:a0->a1->a2->a3->a4->a5->a6->C):C:=k h.1 h.2.1 h.2.2.1 h.2.2.2.1 h.2.2.2.2.1 h.2.2.2.2.2.1 h.2.2.2.2.2.2
theorem ae8 {a0 a1 a2 a3 a4 a5 a6 a7 C:Prop} (h:a0/\a1/\a2/\a3/\a4/\a5/\a6/\a7) (k:a0->a1->a2->a3->a4->a5->a6->a7->C):C:=k h.1 h.2.1 h.2.2.1 h.2.2.2.1 h.2.2.2.2.1 h.2.2.2.2.2.1 h.2.2.2.2.2.2.1 h.2.2.2.2.2.2.2
theorem ae9 {a0 a1 a2 a3 a4 a5 a6 a7 a8 C:Prop} (h:a0/\a1/\a2/\a3/\a4/\a5/\a6/\a7/\a8) (k:a0->a1->a2->a3->a4->a5->a6->a7->a8->C):C:=k h.1 h.2.1 h.2.2.1 h.2.2.2.1 h.2.2.2.2.1 h.2.2.2.2.2.1 h.2.2.2.2.2.2.1 h.2.2.2.2.2.2.2.1 h.2.2.2.2.2.2.2.2
theorem ae10 {a0 a1 a2 a3 a4 a5 a6 a7 a8 a9 C:Prop} (h:a0/\a1/\a2/\a3/\a4/\a5/\a6/\a7/\a8/\a9) (k:a0->a1->a2->a3->a4->a5->a6->a7->a8->a9->C):C:=k h.1 h.2.1 h.2.2.1 h.2.2.2.1 h.2.2.2.2.1 h.2.2.2.2.2.1 h.2.2.2.2.2.2.1 h.2.2.2.2.2.2.2.1 h.2.2.2.2.2.2.2.2.1 h.2.2.2.2.2.2.2.2.2
end L3
namespace L3
open PySem PySem.Spec PyProof.Rows L2
section
variable {X:Cx}
theorem kUo (hc:X.calm=true):jZr X (.builtin "sum") (fun xs H Q=>∃(p:Addr) (is:List Int),xs=[.ref p]/\SqL X.K H p (is.map V.int)/\∀z,Q (.int z) H):=by
 intro pins s σ H xs us Q I r h
 obtain⟨p,is,rfl,hx,q⟩:=h
 obtain⟨u,rfl,ru⟩:=kJ7 r
 cases ru
 obtain⟨its,r',pl,hz⟩:=I.list hx
 obtain⟨ps,e1,e2⟩:=jQn r'
 subst e1
 have eI:(ps.map (fun p=>Value.int p.1 p.2)).toArray=intItems ps.toArray:=by simp[intItems]
 refine sum_intListG (xs:=ps.toArray) (I.ok.hd hc) (eI▸pl.isList) fun h' tk t' k=> ?_
 exact⟨.int _,H,I.kept k,⟨t',rfl⟩,q _⟩
def rSum:List T->Gp->VK3->Prop:=fun xs G Q=>∃(p:Addr) (is:List Int),xs=[.ref p]/\G p=some (.lst (is.map T.int))/\∀z,Q (.int z) G
theorem c_sum (hc:X.calm=true):Call3 X (.builtin "sum") rSum:=
 Call3.of (kUo hc) fun H G xs as Q hg ra ⟨p,is,e,hG,q⟩=>by
  subst e
  obtain⟨v,rfl,rv⟩:=jVg ra
  cases (show v= .ref p from rv)
  obtain⟨vs,h1,h2⟩:=hg.lst hG
  have e:=jKv h2
  subst e
  exact⟨p,is,rfl,.of h1,fun z=>⟨.int z,G,.refl H,hg,rfl,q z⟩⟩
theorem jX0 {xs:List V} {us:List Value} (h:Vals xs us):∀is:List Nat,Vals (is.filterMap (xs[·]?)) (is.filterMap (us[·]?))
 | []=> .nil
 | i::is=>by
  rw[List.filterMap_cons,List.filterMap_cons]
  cases e:xs[i]? with
  | none=>rw[h.none_of e];exact jX0 h is
  | some x=>
   obtain⟨u,e2,r⟩:=h.get e
   rw[e2];exact .cons r (jX0 h is)
theorem jX8 {K:PySem.W.Frag} {H:Hp} {xs:List T} {vs:List V} (h:Reps K H xs vs):∀is:List Nat,Reps K H (is.filterMap (xs[·]?)) (is.filterMap (vs[·]?))
 | []=>rfl
 | i::is=>by
  rw[List.filterMap_cons,List.filterMap_cons]
  cases e:xs[i]? with
  | none=>
   have:vs[i]? =none:=by
    cases e2:vs[i]? with
    | none=>rfl
    | some v=>obtain⟨x,e3,_⟩:=h.get' e2;rw[e] at e3;cases e3
   rw[this];exact jX8 h is
  | some x=>
   obtain⟨v,e2,r⟩:=h.get e
   rw[e2];exact⟨v,_,rfl,r,jX8 h is⟩
noncomputable def kU5 (te:TE3) (tl th tk:TO3):TE3:=fun τ G Q=>te τ G fun x G1=>tl τ G1 fun l G2=>th τ G2 fun u G3=>tk τ G3 fun k G4=>k≠some 0/\∃xs,jXk G4 x=some xs/\∀(is:List Nat) p,G4 p=none->Q (.ref p) (gup G4 p (.lst (is.filterMap (xs[·]?))))
theorem e_slSt {e st:Expr} {te:TE3} {lo hi:Option Expr} {tl th tk:TO3} {pos p2:Pos} (he:PE3 X e te) (hl:PO3 X lo tl) (hu:PO3 X hi th) (hk:PO3 X (some st) tk):PE3 X (.Subscript e (.Slice lo hi (some st) p2) pos) (kU5 te tl th tk):=by
 intro pins s τ G H Q I h
 refine Subscript_ (thn (he pins s τ G H _ I h) fun v s1 w_=>w_.el fun x G1 H1 e1 I1 r1 q1=> ?_)
 refine wpAny_Slice (thn (hl pins s1 τ G1 H1 _ I1 q1) fun vl s2 ⟨l,G2,H2,e2,I2,pl,q2⟩=>thn (hu pins s2 τ G2 H2 _ I2 q2) fun vu s3 ⟨u,G3,H3,e3,I3,pu,q3⟩=>thn (hk pins s3 τ G3 H3 _ I3 q3) fun vk s4 ⟨k,G4,H4,e4,⟨σ,I4,hs4,hg4⟩,pk,ek,xs,hx,q4⟩=> ?_)
 have e14:=e2.trans (e3.trans e4)
 have I5:Inv X pins σ H4 {s4 with heap:=s4.heap.push {cls:= .type "slice",data:= .fields #[vl,vu,vk]} }:=I4.kept (t':=s4.toks) fun b ob q=>Heap.get?_push_of_some _ q
 obtain⟨a,ra,rv⟩:=r1.mono e14
 obtain⟨p,vs,ea,hq,r⟩:=jVq hg4 ra hx
 subst ea
 cases rv
 obtain⟨its,rr,ht,hz⟩:=I5.list hq
 have hlen:=rr.length
 have hg:wpAny (model X.prog X.w) X.A (getItem (.ref p) (.ref s4.heap.objs.size)) (EP3 X pins τ H4 Q) X.xe {s4 with heap:=s4.heap.push {cls:= .type "slice",data:= .fields #[vl,vu,vk]} }:=by
  refine wpAny_getItem_list_slice ht.isList (Heap.IsSliceOf.new ..) pl pu pk ek ?_ (by rw[List.size_toArray]<;>omega)
  have hsz:=slicePick_size_le its.toArray l u k
  unfold slicePick at hsz ⊢
  generalize sliceRange _ _ _=is at hsz ⊢
  have ei:is.filterMap (its.toArray[·]?)=is.filterMap (its[·]?):=by congr 1;funext i;exact List.getElem?_toArray
  rw[ei] at hsz ⊢
  have vp:=jX0 rr is
  refine jQt hs4 ⟨.ref _,_,I5.laid (t':=s4.toks) (o:= .lst (is.filterMap (vs[·]?))) (fun b ob q=>Heap.get?_push_of_some _ q) (Nat.le_refl _) ⟨?_,_,0,vp,Heap.get?_push_size _ rfl⟩,rfl,?_⟩
  ·rw[vp.length];simp at hsz;omega
  ·exact⟨.ref _,_,.upd (.none (I5.hok.fresh (Nat.le_refl _))),hg4.lstNew (jX8 r is) (.none (I5.hok.fresh (Nat.le_refl _))),rfl,q4 is _ (hg4.fresh (I5.hok.fresh (Nat.le_refl _)))⟩
 show wpAny (model X.prog X.w) X.A (subscriptTail e (.Slice lo hi (some st) p2) (.ref p) (.ref s4.heap.objs.size)) (EP3 X pins τ H Q) X.xe {s4 with heap:=s4.heap.push {cls:= .type "slice",data:= .fields #[vl,vu,vk]} }
 exact thn (tail_any (ops:=[.ref p,.ref s4.heap.objs.size]) ht.isList.typeIs slot_list_getitem.lookup hg (by with_unfolding_all rfl)) fun _ _ z=>z.ext (e1.trans e14)
end
section
variable {X:Cx}
end
section
variable {X:Cx}
end
section
variable {X:Cx}
end
section
variable {X:Cx}
end
section
variable {P:Program} {w:World} {A:Around} {E:Value->Shared->Prop} {s:Shared} {d it:Addr} {o:Obj} {es:Array DictEntry} {ep i:Nat}
end
section
variable {X:Cx}
end
theorem jKb:∀(names:List (Str×NameKind)) (n:Nat) (acc:List (Str×Addr)),cellsFrom n names acc=cellsFrom n names []++acc
 | [],_,_=>rfl
 | (x,k)::r,n,acc=>by
  unfold cellsFrom
  split
  ·rw[jKb r (n+1) ((x,n)::acc),jKb r (n+1) [(x,n)]];simp
  ·exact jKb r n acc
theorem jQi {x:Str} {c:Addr}:∀(names:List (Str×NameKind)) (n:Nat) (acc:List (Str×Addr)),(x,c)∈cellsFrom n names acc->(x,c)∈acc\/(x,NameKind.cell)∈names
 | [],_,_,h=> .inl h
 | (y,k)::r,n,acc,h=>by
  unfold cellsFrom at h
  split at h
  ·rename_i hk
   rcases jQi r _ _ h with z | z
   ·rcases (List.mem_cons.mp z) with q | q
    ·cases q;rw[show k= .cell from eq_of_beq hk];exact .inr List.mem_cons_self
    ·exact .inl q
   ·exact .inr (List.mem_cons_of_mem _ z)
  ·exact (jQi r _ _ h).imp id (List.mem_cons_of_mem _)
theorem jK5 {x:Str}:∀(names:List (Str×NameKind)) (n:Nat) (acc:List (Str×Addr)),(∃c,acc.lookup x=some c)->∃c,(cellsFrom n names acc).lookup x=some c
 | [],_,_,h=>h
 | (y,k)::r,n,acc,h=>by
  unfold cellsFrom
  split
  ·refine jK5 r _ _ ?_
   rw[List.lookup_cons]
   cases x == y with
   | true=>exact⟨_,rfl⟩
   | false=>exact h
  ·exact jK5 r _ _ h
theorem jKr {x:Str}:∀(names:List (Str×NameKind)) (n:Nat) (acc:List (Str×Addr)),(x,NameKind.cell)∈names->∃c,(cellsFrom n names acc).lookup x=some c
 | [],_,_,h=>by cases h
 | (y,k)::r,n,acc,h=>by
  unfold cellsFrom
  rcases (List.mem_cons.mp h) with z | z
  ·cases z
   rw[if_pos (show (NameKind.cell == NameKind.cell)=true from rfl)]
   exact jK5 r _ _ ⟨n,by rw[List.lookup_cons];simp⟩
  ·split
   ·exact jKr r _ _ z
   ·exact jKr r _ _ z
theorem jQ4 {env:Env} {x:Str}:∀(names:List (Str×NameKind)),
  (names.map fun (n,k)=>if (k == NameKind.free&&env.scope.kind == .function&&env.kindOf n == some .cell) then (n,NameKind.cell) else (n,k)).lookup x=
   (names.lookup x).map fun k=>if (k == NameKind.free&&env.scope.kind == .function&&env.kindOf x == some .cell) then NameKind.cell else k
 | []=>rfl
 | (n,k)::r=>by
  rw[List.map_cons,List.lookup_cons (b:=k)]
  by_cases hx:(x == n)=true
  ·obtain rfl:x=n:=eq_of_beq hx
   by_cases hf:(k == NameKind.free&&env.scope.kind == .function&&env.kindOf x == some .cell)=true
   ·simp only[hf,if_true,List.lookup_cons,hx,Option.map_some]
   ·simp only[hf,if_false,Bool.false_eq_true,List.lookup_cons,hx,Option.map_some]
  ·by_cases hf:(k == NameKind.free&&env.scope.kind == .function&&env.kindOf n == some .cell)=true
   ·simp only[hf,if_true,List.lookup_cons,hx];exact jQ4 r
   ·simp only[hf,if_false,Bool.false_eq_true,List.lookup_cons,hx];exact jQ4 r
theorem jVa {scope:Scope} {env:Env} {x:Str} (h:(relabel scope env).names.lookup x=some .cell\/(relabel scope env).names.lookup x=some .free):scope.names.lookup x=some .free\/scope.names.lookup x=some .cell:=by
 have e:(relabel scope env).names.lookup x=_:=jQ4 (env:=env) scope.names
 rw[e] at h
 cases hq:scope.names.lookup x with
 | none=>rw[hq] at h;simp at h
 | some k=>
  rw[hq,Option.map_some] at h
  by_cases hf:(k == NameKind.free&&env.scope.kind == .function&&env.kindOf x == some .cell)=true
  ·have:(k == NameKind.free)=true:=by rw[Bool.and_eq_true,Bool.and_eq_true] at hf;exact hf.1.1
   rw[eq_of_beq this];exact .inl rfl
  ·rw[if_neg hf] at h
   exact h.symm
noncomputable def jKi (X:Cx) (scope:Scope) (cl:List (Str×Addr)) (C:Addr) (fp:List Addr) (s:Shared) (H:Hp):Cx:=
 {X with env:=compEnvC scope (cellsFrom (C+1) scope.names cl) C X.env,s₀:=s,H₀:=H,outer:=X.stack,stack:=X.stack,ex:=fp,fn:=fun x=>scope.names.lookup x == some .cell,pn:=[],xe:=fun _ _=>False}
structure CmpOkC (X:Cx) (scope:Scope) (cl:List (Str×Addr)) (mask:List Bool):Prop where
 cl:clGo X.env scope.names []=some cl
 kind:scope.kind= .function
 cells:(scope.names.all fun y=>y.2 != .cell||scope.names.lookup y.1 == some .cell)=true
 names:(scope.names.all fun y=>y.2 != .local||scope.names.lookup y.1 == some .local)=true
 vis:(scope.names.all fun y=>y.2 != .free||X.env.kindOf y.1 == some .cell||X.env.kindOf y.1 == some .free)=true
 len:mask.length=X.N.length
 mask:((X.N.zip mask).all fun p=>p.2||(scope.names.lookup p.1 != some .local&&scope.names.lookup p.1 != some .cell))=true
section
variable {A:Around} {E:Value->Shared->Prop} {s:Shared} {M:Model}
theorem jQm {scope:Scope} {globals:Addr} {closure:List (Str×Addr)} {qual:Str} {func:Option Addr} {code:Value} {outer:Env} {builtins:Addr} {Q:Env->Shared->Prop}
  (hQ:∀h',h'.Ns s.heap.objs.size (fun _=>none)->(∀b o,s.heap.get? b=some o->h'.get? b=some o)->CellsOk h' (s.heap.objs.size+1) (cellsFrom (s.heap.objs.size+1) scope.names [])->
   Q (newEnv scope s.heap.objs.size globals (cellsFrom (s.heap.objs.size+1) scope.names closure) qual func code (some outer) builtins) {s with heap:=h'}):
  wpAny M A (newFunctionEnv scope globals closure [] qual func code (some outer) builtins) Q E s:=by
 (simp only[newFunctionEnv,Option.isSome_some,if_true])
 (refine wpAny_bind (wpAny_alloc ?_))
 (refine wpAny_bind (wpAny_layCells _ (fun name kind cells=>by cases hkc:kind == NameKind.cell<;>simp[hkc]) _ _ _ _ ?_))
 have ok:=cellsFrom_ok scope.names (s.heap.push {cls:= .type "dict",data:= .dict #[]}) (s.heap.objs.size+1) [] ⟨fun _ _ hm=>(nomatch hm),List.Pairwise.nil⟩ (by rw[Heap.size_push];exact Nat.le_refl _)
 rw[Heap.size_push] at ok
 rw[show ({s with heap:=s.heap.push {cls:= .type "dict",data:= .dict #[]} }:Shared).heap.objs.size=s.heap.objs.size+1 from Heap.size_push ..]
 refine wpAny_bind ?_
 rw[List.forIn_nil]
 exact wpAny_pure (wpAny_pure (hQ _ ((Heap.Ns.new s.heap (.type "dict")).keeps (pushCells_keeps _ _)) (fun b o e=>pushCells_keeps _ _ b o (Heap.get?_push_of_some _ e)) ok))
end
section
variable {X:Cx} {scope:Scope} {cl:List (Str×Addr)} {mask:List Bool}
theorem CmpOkC.local (c:CmpOkC X scope cl mask) {i:Nat} {x:Str} (h1:X.N[i]? =some x) (h2:mask[i]? =some false):scope.names.lookup x≠some .local/\scope.names.lookup x≠some .cell:=by
 have h:=c.mask
 rw[List.all_eq_true] at h
 have hz:(X.N.zip mask)[i]? =some (x,false):=by rw[List.getElem?_zip_eq_some];exact⟨h1,h2⟩
 have:=h _ (List.mem_of_getElem? hz)
 simpa using this
theorem CmpOkC.free (c:CmpOkC X scope cl mask) {x:Str} (h:scope.names.lookup x=some .free):X.env.kindOf x=some .cell\/X.env.kindOf x=some .free:=by
 have hv:=c.vis
 rw[List.all_eq_true] at hv
 have:=hv (x,.free) (PySem.mem_of_lookup h)
 simpa using this
theorem CmpOkC.nm (c:CmpOkC X scope cl mask):∀y∈scope.names,y.2= .local->scope.names.lookup y.1=some .local:=by
 have hv:=c.names
 rw[List.all_eq_true] at hv
 intro y hy e
 have:=hv y hy
 rw[e] at this
 simpa using this
theorem CmpOkC.own (c:CmpOkC X scope cl mask) {x:Str} {d:Addr} {n:Nat} (h:(cellsFrom n scope.names []).lookup x=some d):scope.names.lookup x=some .cell:=by
 rcases jQi _ _ _ (PySem.mem_of_lookup h) with z | z
 ·cases z
 ·have hv:=c.cells
  rw[List.all_eq_true] at hv
  have:=hv _ z
  simpa using this
theorem CmpOkC.two (_:CmpOkC X scope cl mask) {x:Str} {d:Addr} {n:Nat} (h:(cellsFrom n scope.names cl).lookup x=some d):(cellsFrom n scope.names []).lookup x=some d\/((cellsFrom n scope.names []).lookup x=none/\cl.lookup x=some d):=by
 rw[jKb,List.lookup_append] at h
 cases hf:(cellsFrom n scope.names []).lookup x with
 | none=>rw[hf] at h;exact .inr ⟨rfl,h⟩
 | some e=>rw[hf] at h;exact .inl h
theorem CmpOkC.apart (c:CmpOkC X scope cl mask) {pins:List (Addr×Obj)} {σ:L2.St} {H:Hp} {s:Shared} {h4:Heap} {b:Addr} {x:Str} {d:Addr} (hcs:CellsOk h4 (s.heap.objs.size+1) (cellsFrom (s.heap.objs.size+1) scope.names [])) (_:Inv X pins σ H s)
  (hf:∀x c,X.env.cells.lookup x=some c->c≠b) (hb:b<s.heap.objs.size) (h:(cellsFrom (s.heap.objs.size+1) scope.names cl).lookup x=some d):d≠b:=by
 rcases c.two h with z | ⟨_,z⟩
 ·have:=(hcs.empty _ _ (PySem.mem_of_lookup z)).2
  exact Nat.ne_of_gt (Nat.lt_of_lt_of_le hb (Nat.le_of_succ_le this))
 ·exact hf x d (jQ0 c.cl (by simp) _ _ z)
theorem kKp (c:CmpOkC X scope cl mask) {pins:List (Addr×Obj)} {σ:L2.St} {H:Hp} {s:Shared} {fp:List Addr} {h4:Heap} {tk:Nat} (I:Inv X pins σ H s) (hf:∀b∈fp,FpOk X pins H b) (ho:∀b∈fp,∃o,s.heap.get? b=some o)
  (hns:h4.Ns s.heap.objs.size fun _=>none) (hk:∀b o,s.heap.get? b=some o->h4.get? b=some o) (hcs:CellsOk h4 (s.heap.objs.size+1) (cellsFrom (s.heap.objs.size+1) scope.names [])):
  Inv (jKi X scope cl s.heap.objs.size fp s H) [] (msk mask σ) H {s with heap:=h4,toks:=tk}:=by
 have sub:=jQ0 c.cl (by simp)
 have old:∀x d,cl.lookup x=some d->d<s.heap.objs.size:=fun x d h=>let ⟨_,q⟩:=I.cell x d (sub _ _ h);q.lt
 have new:∀x d,(cellsFrom (s.heap.objs.size+1) scope.names []).lookup x=some d->s.heap.objs.size+1<=d:=fun x d h=>(hcs.empty _ _ (PySem.mem_of_lookup h)).2
 have fre:∀x d,scope.names.lookup x=some .free->cl.lookup x=some d->(cellsFrom (s.heap.objs.size+1) scope.names cl).lookup x=some d:=fun x d h1 h2=>by
  rw[jKb,List.lookup_append]
  cases hq:(cellsFrom (s.heap.objs.size+1) scope.names []).lookup x with
  | none=>exact h2
  | some e=>exact absurd (c.own hq) (by rw[h1];simp)
 have ok:(jKi X scope cl s.heap.objs.size fp s H).Ok:=by
  refine⟨I.ok.mod,c.kind,I.ok.glob,I.ok.blt,Nat.le_refl _,fun x y d h1 h2=> ?_,fun x hx=> ?_,fun x d hx hd=> ?_,I.ok.hd,I.ok.gd,I.ok.frames,.inl rfl,
   fun b hb=> ?_,I.bs,Nat.le_trans I.ok.bsz I.sz,fun b o e hb=> ?_,fun b hb hz=> ?_,I.stack,I.stkFree⟩
  ·rcases c.two h1 with z1 | ⟨_,z1⟩<;>rcases c.two h2 with z2 | ⟨_,z2⟩
   ·exact name_of_addr hcs.apart (PySem.mem_of_lookup z1) (PySem.mem_of_lookup z2)
   ·exact absurd (Nat.lt_of_lt_of_le (old _ _ z2) (Nat.le_of_succ_le (new _ _ z1))) (Nat.lt_irrefl _)
   ·exact absurd (Nat.lt_of_lt_of_le (old _ _ z1) (Nat.le_of_succ_le (new _ _ z2))) (Nat.lt_irrefl _)
   ·exact I.ok.inj x y d (sub _ _ z1) (sub _ _ z2)
  ·have hx':=jVa (scope:=scope) (env:=X.env) hx
   rcases hx' with z | z
   ·obtain⟨d,hd⟩:=jQ1 c.cl z
    exact⟨d,fre x d z hd⟩
   ·exact jKr _ _ _ (PySem.mem_of_lookup z)
  ·have hx':scope.names.lookup x=some .cell:=eq_of_beq hx
   rcases c.two hd with z | ⟨z,_⟩
   ·exact Nat.le_of_succ_le (new _ _ z)
   ·obtain⟨e,he⟩:=jKr scope.names (s.heap.objs.size+1) [] (PySem.mem_of_lookup hx')
    rw[he] at z;cases z
  ·obtain⟨o,e⟩:=ho b hb
   exact⟨Nat.ne_of_lt (Heap.lt_size e),fun x d hd=>c.apart hcs I (hf b hb).2.2.2.2.1 (Heap.lt_size e) hd⟩
  ·rcases (hf b hb).2.2.2.1 with z | z
   ·exact I.ok.noex b o e z
   ·exact absurd (Nat.lt_of_lt_of_le (Heap.lt_size e) I.ok.bsz) (Nat.not_lt.mpr z)
  ·rcases List.mem_cons.mp (I.stkSub b hz) with z | z
   ·exact (hf b hb).2.1 z
   ·exact (hf b hb).2.2.1 z
 refine⟨ok,rfl,I.bare,Un.kept hk,⟨_,hns,fun i x v h1 h2 h3=> ?_⟩,fun x d hd=> ?_,I.hok.fresh (Nat.le_refl _),fun x d hd=> ?_,fun p hp=>absurd (show p∈([]:List (Addr×Obj)) from hp) (by simp),I.hok.kept hk,?_⟩
 ·obtain⟨m1,m2⟩:=jV6 h2
  obtain⟨nl,nc⟩:=c.local h1 m1
  have fr:scope.names.lookup x=some .free:=by
   rcases h3 with z | z
   ·exact absurd (jJ8 (env:=X.env) z) nl
   ·exact (jVa (scope:=scope) (env:=X.env) z).elim id fun q=>absurd q nc
  have hkk:=c.free fr
  obtain⟨m,hn,hl⟩:=I.loc
  have vis:Vis X.env.scope x:=by rcases hkk with z | z;exact .inr (.inl z);exact .inr (.inr z)
  obtain⟨u,ru,lk⟩:=hl i x v h1 m2 vis
  refine⟨u,ru,?_⟩
  rcases lk with ⟨z,_⟩ | ⟨_,d,hd,cd⟩
  ·exfalso;rcases hkk with q | q<;>(rw[z] at q;cases q)
  ·obtain⟨d',hd'⟩:=jQ1 c.cl fr
   have:d'=d:=by have:=sub _ _ hd';rw[hd] at this;exact (Option.some.inj this).symm
   subst this
   refine .inr ⟨?_,d',fre x d' fr hd',cd.keeps hk⟩
   rcases h3 with z | z
   ·exact absurd (jJ8 (env:=X.env) z) nl
   ·exact z
 ·rcases c.two hd with z | ⟨_,z⟩
  ·exact⟨none,(hcs.empty _ _ (PySem.mem_of_lookup z)).1⟩
  ·obtain⟨v,hv⟩:=I.cell x d (sub _ _ z)
   exact⟨v,hv.keeps hk⟩
 ·rcases c.two hd with z | ⟨_,z⟩
  ·exact I.hok.fresh (Nat.le_of_succ_le (new _ _ z))
  ·exact I.freeC x d (sub _ _ z)
 ·exact (jQh (c.len.trans I.len.symm)).trans I.len
theorem kXh {pins:List (Addr×Obj)} {σ σ':L2.St} {H H':Hp} {s s':Shared} {fp:List Addr} {pl:List (Addr×Obj)} {C:Addr} (I:Inv X pins σ H s) (hf:∀b∈fp,FpOk X pins H b) (hC:s.heap.objs.size<=C)
  (J:Inv (jKi X scope cl C fp s H) pl σ' H' s') {h':Heap} (hb:Heap.SameBut C s'.heap h'):Inv X pins σ H' {s' with heap:=h'}:=by
 have ne:∀b o,s.heap.get? b=some o->b≠C:=fun b o e=>Nat.ne_of_lt (Nat.lt_of_lt_of_le (Heap.lt_size e) hC)
 have u:=J.base
 have hfree:H' C=none:=J.free
 have u':Un (frs X.stack) fp H H' s.heap h':=⟨fun b o e n hb' hx=>(hb.2 b (ne b o e)).trans (u.keep b o e n hb' hx),fun b o e n hb' hx=>let ⟨sl,z⟩:=u.slot b o e n hb' hx;⟨sl,(hb.2 b (ne b o e)).trans z⟩,
  u.free,fun b o e hx=>let ⟨o',z⟩:=u.there b o e hx;⟨o',(hb.2 b (ne b o e)).trans z⟩,u.tups,u.frzs,u.tbls⟩
 have hok:HOk X.prog X.w H' h':=fun b ob e=>(J.hok b ob e).stay (fun c w' hc q=>(hb.2 c (by
  rintro rfl
  rcases hc with rfl | hc
  ·rw[hfree] at e;cases e
  ·rw[hfree] at hc;cases hc)).trans q) (fun _ q=>q) fun _ _ q=>q
 exact I.call' (s':={s' with heap:=h'}) J.os u' hok J.bare fun b hb=>⟨(hf b hb).2.2.2.1,(hf b hb).2.1,(hf b hb).2.2.2.2.1,(hf b hb).2.2.2.2.2⟩
end
section
variable {X:Cx} {scope:Scope} {cl:List (Str×Addr)} {mask:List Bool} {elt iter tg:Expr} {ifs:List Expr} {pos:Pos} {wi:TI3} {g:TG3} {tif:TT3} {te:TE3}
theorem kJd (hc:X.calm=true) (ok:CmpOkC X scope cl mask)
  (hgk:jZq mask g) (hg:∀C fp s H,PG3 (jKi X scope cl C fp s H) tg g) (hif:∀C fp s H,PIf3 (jKi X scope cl C fp s H) ifs tif) (he:∀C fp s H,PE3 (jKi X scope cl C fp s H) elt te)
  {pins:List (Addr×Obj)} {τ:St3} {H:Hp} {Q:VK3} {itv:Value} {s2:Shared} {E:Value->Shared->Prop} {RR:Value->Addr->Result->Shared->Prop}
  (h2:PIE3 X pins τ H tg (fun xs stay G=>jX2 mask g tif te τ xs stay G Q) itv s2)
  (hRR:∀D C s' m,s'.heap.Ns C m->(∃G1 H1,Ext H H1/\H1 C=none/\Q (.ref D) G1/\∀h',Heap.SameBut C s'.heap h'->Inv3 X pins τ G1 H1 {s' with heap:=h'})->(∃oC,s'.heap.get? C=some oC/\C≠X.env.locals/\C∉X.fs/\∀v,oC.data≠ .cell v)->(∀x c,X.env.cells.lookup x=some c->c≠C)->(∀p∈X.pn++pins,p.1≠C)->X.s₀.heap.objs.size<=C->RR (.ref D) C (.ok .next) s'):
  wpAny (model X.prog X.w) X.A (newList []) (fun acc s₃=>wpAny (model X.prog X.w) X.A (newFunctionEnv scope X.env.globals cl [] X.env.qual none .none (some X.env)) (fun cenv s₄=>
   codeAny (model X.prog X.w) X.A (.compStart (.ListComp elt [⟨tg,iter,ifs,0⟩] scope pos) 0 itv acc {cenv with scope:=relabel scope X.env}) (RR acc cenv.locals) s₄) E s₃) E s2:=by
 obtain⟨it,fp,tn,J,xs,stay,G2,H2,e,eH,⟨σ,I2,hs2,hg2⟩,T0,st2,f2,IT,hq⟩:=h2
 subst e
 refine wpAny_newObj_type (jQm fun h4 hns hk4 hcs=> ?_)
 dsimp only at hns hk4 hcs ⊢
 have hD:H2 s2.heap.objs.size=none:=I2.hok.fresh (Nat.le_refl _)
 generalize hs3:({s2 with heap:=s2.heap.push {cls:= .type "list",dict:=none,data:= .seq ([]:List Value).toArray} }:Shared)=s3
 have eh3:s2.heap.push {cls:= .type "list",dict:=none,data:= .seq ([]:List Value).toArray}=s3.heap:=by rw[<-hs3]
 have I3:Inv X pins σ (upd H2 s2.heap.objs.size (.lst [])) s3:=by
  rw[<-hs3]
  exact I2.laid (t':=s2.toks) (fun b u e=>Heap.get?_push_of_some _ e) (Nat.le_refl _) ⟨Nat.zero_le _,[],0,.nil,Heap.get?_push_size _ rfl⟩
 rw[eh3] at hns hk4 hcs ⊢
 generalize hDd:s2.heap.objs.size=D at *
 have e3:Ext H2 (upd H2 D (.lst [])):= .upd (.none hD)
 have hg3:GRel X.K (upd H2 D (.lst [])) (gup G2 D (.lst [])):=hg2.lstNew (show Reps X.K H2 [] [] from rfl) (.none hD)
 have obj2:∀b∈fp,∃o,s2.heap.get? b=some o:=fun b hb=>let ⟨o,e,_⟩:=T0.obj 0 _ st2 b hb;⟨o,e⟩
 have fD:∀b∈fp,b≠D:=fun b hb=>by obtain⟨o,e⟩:=obj2 b hb;rw[<-hDd];exact Nat.ne_of_lt (Heap.lt_size e)
 have f3:∀b∈fp,FpOk X pins (upd H2 D (.lst [])) b:=fun b hb=>⟨by rw[jJr (fD b hb)];exact (f2 b hb).1,(f2 b hb).2⟩
 have k3:∀b o,s2.heap.get? b=some o->s3.heap.get? b=some o:=fun b o e=>by rw[<-eh3];exact Heap.get?_push_of_some _ e
 have obj3:∀b∈fp,∃o,s3.heap.get? b=some o:=fun b hb=>let ⟨o,e⟩:=obj2 b hb;⟨o,k3 b o e⟩
 have k4:∀b o,s3.heap.get? b=some o->h4.get? b=some o:=hk4
 have Ic:Inv (jKi X scope cl s3.heap.objs.size fp s3 (upd H2 D (.lst []))) [] (msk mask σ) (upd H2 D (.lst [])) {s3 with heap:=h4,toks:=s3.toks}:=kKp ok I3 f3 obj3 hns k4 hcs
 have st4:tn 0 h4:=T0.keep _ _ _ st2 fun b _ o e=>k4 b o (k3 b o e)
 have hl3:mask.length=τ.length:=ok.len.trans (I3.len.symm.trans hs2.1)
 obtain⟨P,p0,hst,turn,fin⟩:=hq D (hg2.fresh hD)
 have fpc:∀ {H':Hp} {pl:List (Addr×Obj)},(∀b∈fp,H' b=none)->(∀p∈pl,p.1∉fp)->∀b∈fp,FpOk (jKi X scope cl s3.heap.objs.size fp s3 (upd H2 D (.lst []))) pl H' b:=fun {H' pl} hn hp b hb=>by
  obtain⟨o,e⟩:=obj3 b hb
  refine⟨hn b hb,Nat.ne_of_lt (Heap.lt_size e),?_,.inl hb,fun x d hd=>ok.apart hcs I3 (f3 b hb).2.2.2.2.1 (Heap.lt_size e) hd,fun p hpp z=> ?_⟩
  ·intro z
   rcases List.mem_cons.mp (I3.stkSub b z) with q | q
   ·exact (f3 b hb).2.1 q
   ·exact (f3 b hb).2.2.1 q
  ·have hpp':p∈pl:=by simpa[jKi] using hpp
   exact hp p hpp' (z▸hb)
 have loop:∀s4:Shared,s4={s3 with heap:=h4,toks:=s3.toks}->
   codeAny (model X.prog X.w) X.A (.compLoop (.ListComp elt [⟨tg,iter,ifs,0⟩] scope pos) 0 (.ref it) (.ref D) (compEnvC scope (cellsFrom (s3.heap.objs.size+1) scope.names cl) s3.heap.objs.size X.env)) (RR (.ref D) s3.heap.objs.size) s4:=by
  rintro s4 rfl
  refine jZg (fun n s'=>∃i acc G' H',n=xs.length-i/\i<=xs.length/\Ext H2 H'/\Inv3 (jKi X scope cl s3.heap.objs.size fp s3 (upd H2 D (.lst []))) [] (msk mask τ) G' H' s'/\tn i s'.heap/\(∀b∈fp,H' b=none)/\P i acc G') ?_ xs.length
   ⟨0,[],_,_,rfl,Nat.zero_le _,e3,⟨_,Ic,jYj (hs2.mono e3) hl3,hg3⟩,st4,fun b hb=>(f3 b hb).1,p0⟩
  rintro n s5 ⟨i,acc,G5,H5,en,hi5,e5,⟨σ5,I5,hs5,hg5⟩,st5,fr5,p5⟩
  obtain⟨hstay,hacc⟩:=hst i acc G5 hi5 p5
  obtain⟨go,stop,yl⟩:=IT i H5 G5 e5 hg5 hstay
  by_cases hlt:i<xs.length
  ·refine thn (T0.item (jKi X scope cl s3.heap.objs.size fp s3 (upd H2 D (.lst []))) rfl rfl rfl hc i [] s5 σ5 H5 (fun _ _=>False) I5 (fpc fr5 (by simp)) st5 (go hlt)) fun r s6 ⟨u,hr,h6⟩=> ?_
   subst hr
   refine thn h6 fun _ s7 ⟨x,H7,I7,r7,y7,st7,fr7⟩=> ?_
   obtain⟨e7,g7,t,ht,rt⟩:=yl hlt x H7 y7
   have I7':=I7.pinned (fpc fr7 (by simp)) (T0.obj _ _ st7)
   refine thn (hg _ _ _ _ ([]++jKy fp s7.heap) s7 (msk mask τ) G5 H7 t u _ ⟨σ5,I7',hs5.mono e7,g7⟩ ⟨x,rt,r7⟩ (hgk _ _ _ _ (turn i t acc G5 ht p5))) fun _ s8 ⟨τ8,G8,H8,e8,I8,q8,ql8,qk8⟩=> ?_
   refine thn (hif _ _ _ _ ([]++jKy fp s7.heap) s8 τ8 G8 H8 _ I8 q8) fun b s9 ⟨G9,H9,e9,I9,q9⟩=> ?_
   have back:∀ {Ga:Gp} {Ha:Hp} {sa:Shared} {acc':List T},Ext H7 Ha->Inv3 (jKi X scope cl s3.heap.objs.size fp s3 (upd H2 D (.lst []))) ([]++jKy fp s7.heap) τ8 Ga Ha sa->P (i+1) acc' Ga->
     ∃m,m<n/\∃i acc G' H',m=xs.length-i/\i<=xs.length/\Ext H2 H'/\Inv3 (jKi X scope cl s3.heap.objs.size fp s3 (upd H2 D (.lst []))) [] (msk mask τ) G' H' sa/\tn i sa.heap/\(∀b∈fp,H' b=none)/\P i acc G':=by
    rintro Ga Ha sa acc' ea ⟨σa,Ia,hsa,hga⟩ pa
    have e2a:Ext H5 Ha:=e7.trans ea
    have hla:mask.length=τ8.length:=by rw[ql8,jQh hl3];exact hl3
    have hsm:=jYj (mask:=mask) hsa hla
    rw[kJr hl3 ql8 qk8] at hsm
    refine⟨xs.length-(i+1),by omega,i+1,acc',Ga,Ha,rfl,hlt,e5.trans e2a,⟨msk mask σa,(Ia.weak (jQh (hla.trans hsa.1.symm)) fun j v hv=>(jV6 hv).2).pins_of (fun p hp=>absurd hp (by simp)),hsm,hga⟩,?_,fun b hb=> ?_,pa⟩
    ·exact T0.keep _ _ _ st7 fun b hb o e=>(Ia.pin (b,o) (List.mem_append_right _ (List.mem_append_right _ (jKs hb e)))).1
    ·obtain⟨o,e,d⟩:=T0.obj _ _ st7 b hb
     exact (Ia.pin (b,o) (List.mem_append_right _ (List.mem_append_right _ (jKs hb e)))).2.1
   cases b with
   | false=>
    rw[if_neg Bool.false_ne_true] at q9 ⊢
    exact back (e8.trans e9) I9 q9
   | true=>
    rw[if_pos rfl] at q9 ⊢
    refine thn (he _ _ _ _ ([]++jKy fp s7.heap) s9 τ8 G9 H9 _ I9 q9) fun y s10 w_=>w_.el fun ty G10 H10 e10 I10 r10 ⟨hD10,hz10,q10⟩=> ?_
    obtain⟨vy,rvy,ruy⟩:=r10
    refine thn (jQz ([]++jKy fp s7.heap) s10 τ8 G10 H10 (.ref D) [ty] (.ref D) [y] (fun _ G'=>P (i+1) (acc++[ty]) G') I10 ⟨.ref D,rfl,rfl⟩ ⟨[vy],.one rvy,.cons ruy .nil⟩ ⟨D,acc,ty,rfl,rfl,hD10,hz10,q10⟩) fun _ s11 w_=>w_.el fun _ G11 H11 e11 I11 _ q11=> ?_
    exact back (((e8.trans e9).trans e10).trans e11) I11 q11
  ·have ei:i=xs.length:=by omega
   refine thn (T0.done (jKi X scope cl s3.heap.objs.size fp s3 (upd H2 D (.lst []))) rfl rfl rfl hc i [] s5 σ5 H5 (fun _ _=>False) I5 (fpc fr5 (by simp)) st5 (stop (by omega))) fun r s6 ⟨hr,I6⟩=> ?_
   subst hr;subst ei
   obtain⟨m,hn,_⟩:=I6.loc
   obtain⟨oC,es,ep,hoC,hdC,_⟩:=id hn
   refine hRR D s3.heap.objs.size s6 m hn ⟨G5,H5,eH.trans e5,I6.free,fin acc G5 p5,fun h' hb=>⟨σ,kXh I3 f3 (Nat.le_refl _) I6 hb,hs2.mono e5,hg5⟩⟩
    ⟨oC,hoC,Nat.ne_of_gt I3.lt,I3.nofs (Nat.le_refl _),fun v z=>by rw[hdC] at z;cases z⟩ (fun x d hd=> ?_) (fun p hp=> ?_) I3.sz
   ·obtain⟨v,q⟩:=I3.cell x d hd
    exact Nat.ne_of_lt q.lt
   ·exact Nat.ne_of_lt (Heap.lt_size (I3.pin p hp).1)
 exact codeAny_compStart_list (loop _ (by rw[<-hs3])) (T0.self _ 0 _ _ _ st4 (loop _ (by rw[<-hs3])))
theorem kZi (hc:X.calm=true) (ok:CmpOkC X scope cl mask) (hi:PI3 X tg iter wi) (hgk:jZq mask g) (hg:∀C fp s H,PG3 (jKi X scope cl C fp s H) tg g) (hif:∀C fp s H,PIf3 (jKi X scope cl C fp s H) ifs tif) (he:∀C fp s H,PE3 (jKi X scope cl C fp s H) elt te)
  (hs:∀x,foldedSetIterable iter X.env x=pure x:=by intro _;rfl):PE3 X (.ListComp elt [⟨tg,iter,ifs,0⟩] scope pos) (jKh mask wi g tif te):=by
 intro pins s τ G H Q I h
 rw[eval_ListComp]
 refine wpAny_comprehension_free (use:=none) rfl hs (jU7 ok.cl) ok.kind ok.nm (thn (hi pins s τ G H _ I h) fun xv s1 h1=>thn h1 fun itv s2 h2=> ?_)
 refine kJd (RR:=fun acc C=>compPost (model X.prog X.w) X.A X.xe none (EP3 X pins τ H Q) acc C) hc ok hgk hg hif he h2 ?_
 rintro D C s' m hn ⟨G1,H1,e1,_,q1,hI⟩ _ _ _ _
 exact⟨m,hn,fun h' hb=>⟨.ref D,G1,H1,e1,hI h' hb,⟨.ref D,rfl,rfl⟩,q1⟩⟩
end
def CN (K:PySem.W.Frag) (cn:Str) (C:Addr):Prop:=PySem.W.nsIn K mainGlobals cn=some (some (.ref C))
theorem CN.one {K:PySem.W.Frag} {cn:Str} {C D:Addr} (h:CN K cn C) (h':CN K cn D):C=D:=by
 unfold CN at h h';rw[h] at h';cases h';rfl
section
variable {X:Cx} {cn f m:Str} {pos pos' apos p:Pos} {e o value:Expr} {es:List Expr} {ta tv:TE3} {t:TA3} {k:Nat} {ps:List Str} {sp:Sp3}
end
end L3
namespace L3
open PySem PySem.Spec PyProof.Rows L2 PySem.W
structure Lies (P:Program) (w:World) (outer:List Env) (H:Hp) (s:Shared) (a C:Addr) (B:Heap) (a0:Value) (H':Hp) (s':Shared):Prop where
 os:s'.os=s.os
 bare:AllBare s'.gens
 fly:Heap.FlyingW B outer a (.ref C) a0 s'.heap
 hok:HOk P w H' B
 keep:∀b o,s.heap.get? b=some o->H b=none->b∉frs outer->B.get? b=some o
 there:∀b o,s.heap.get? b=some o->b∉frs outer->∃o',B.get? b=some o'
 slot:∀b o,s.heap.get? b=some o->b∈frs outer->∃sl,s'.heap.get? b=some {o with slots:=sl}
 free:∀b o,s.heap.get? b=some o->H b=none->H' b=none
 tups:∀b xs,H b=some (.tup xs)->H' b=some (.tup xs)
 frzs:∀b o u,H b=some (.frz o u)->H' b=some (.frz o u)
 tbls:∀b ps,H b=some (.tbl ps)->∃more,H' b=some (.tbl (ps++more))
section
variable {P:Program} {w:World} {outer:List Env} {H H':Hp} {s s':Shared} {a C:Addr} {B:Heap} {a0:Value}
theorem Lies.un (l:Lies P w outer H s a C B a0 H' s'):Un (frs outer) [] H H' s.heap s'.heap where
 keep:=fun b o h n f _=>l.fly.1 b o (l.keep b o h n f)
 slot:=fun b o h _ f _=>l.slot b o h f
 free:=fun b o h n _=>l.free b o h n
 there:=fun b o h _=>by
  by_cases f:b∈frs outer
  ·obtain⟨sl,e⟩:=l.slot b o h f
   exact⟨_,e⟩
  ·obtain⟨o',e⟩:=l.there b o h f
   exact⟨o',l.fly.1 b o' e⟩
 tups:=l.tups
 frzs:=l.frzs
 tbls:=l.tbls
theorem kQl {P:Program} {w:World} {H:Hp} {h:Heap} {a:Addr} {o:HO} (x:ObjOk P w H h a o):∃u,h.get? a=some u:=by
 induction o with
 | lst xs=>obtain⟨z,its,n,r,e⟩:=x;exact⟨_,e⟩
 | tup xs=>obtain⟨z,its,r,ob,e,c⟩:=x;exact⟨_,e⟩
 | dK kvs=>obtain⟨z,y,vs,r,ob,es,ep,e,c⟩:=x;exact⟨_,e⟩
 | dT kvs=>obtain⟨z,y,xs,r,ob,es,ep,e,c⟩:=x;exact⟨_,e⟩
 | set S n=>obtain⟨ob,es,ep,t,e,c⟩:=x;exact⟨_,e⟩
 | ins C dx fs=>obtain⟨d,z,ne,e,_⟩:=x;exact⟨_,e⟩
 | own y=>exact x
 | xd fs=>obtain⟨mA,⟨od,es,ep,e,c⟩,r⟩:=x;exact⟨_,e⟩
 | rng lo hi=>obtain⟨t,u,v,e⟩:=x;exact⟨_,e⟩
 | frz ob u ih=>obtain⟨e,q⟩:=x;exact⟨_,e⟩
 | tbl ps=>exact⟨_,x⟩
 | met f y=>exact⟨_,x⟩
 | ext φ=>obtain⟨p,e,st⟩:=x;exact e
theorem Lies.na (l:Lies P w outer H s a C B a0 H' s'):H' a=none:=by
 cases e:H' a with
 | none=>rfl
 | some o=>
  obtain⟨u,hu⟩:=kQl (l.hok a o e)
  rw[l.fly.2.1] at hu;cases hu
end
section
variable {X:Cx} {pins:List (Addr×Obj)} {σ:L2.St} {H H':Hp} {s s':Shared} {a C:Addr} {B:Heap} {a0:Value} {E:Value->Shared->Prop}
theorem kZd {l:List Env}:∀env∈l,∀b,env.frame=some b->b∈frs l:=fun env he b hb=>List.mem_filterMap.mpr ⟨env,he,hb⟩
theorem kVy (I:Inv X pins σ H s) (hs:X.stack=X.env::X.outer) (hf:X.env.frame=some X.env.locals) (hex:X.ex=[]) {args:List Value} (hm:Heap.MadeExcOf s.heap s'.heap a (.ref C) args) (ho:s'.os=s.os) (hg:s'.gens=s.gens) {Q:Unit->Shared->Prop}
  (k:∀B a0 h',Lies X.prog X.w X.outer X.H₀ X.s₀ a C B a0 H {s' with heap:=h'}->Q () {s' with heap:=h'}):wpAny (model X.prog X.w) X.A (leaving X.env (.ref a)) Q E s':=by
 have hst:=I.stack
 have hfr:X.A.frames=some (X.env::X.outer):=by rw[I.ok.frames,hs]
 rw[hs] at hst
 have sub:∀b,b∈frs (X.env::X.outer)↔b=X.env.locals\/b∈frs X.outer:=fun b=>by
  unfold frs;rw[List.filterMap_cons,hf];exact List.mem_cons
 have inB:∀b o,s.heap.get? b=some o->b≠X.env.locals->b∉frs X.outer->(hideAll s.heap (frs (X.env::X.outer))).get? b=some o:=fun b o h n f=>
  hideAll_get _ h fun z=>((sub b).mp z).elim n f
 have nex:∀b,b∉X.ex:=fun b=>by rw[hex];exact List.not_mem_nil
 have old:∀b o,X.s₀.heap.get? b=some o->b≠X.env.locals:=fun b o h z=>by
  rw[z] at h;exact absurd (Heap.lt_size h) (Nat.not_lt.mpr I.ok.above)
 refine wpAny_leaves_madeW hfr hf (fun b o h=>of_hideAll _ h) (funFrames_hide hst fun env he b hb=>kZd env he b hb) hm fun h' t fl tp nt up=> ?_
 refine k (hideAll s.heap (frs (X.env::X.outer))) (.ref t) h' ⟨ho.trans I.os,by rw[show ({s' with heap:=h'}:Shared).gens=s.gens from hg];exact I.bare,fl,?_,?_,?_,?_,fun b o h n=>I.base.free b o h n (nex b),I.base.tups,I.base.frzs,I.base.tbls⟩
 ·intro b o e
  refine (I.hok b o e).stay (fun c u hc h=>hideAll_get _ h fun z=> ?_) (fun _ q=>q) fun _ _ q=>q
  have hn:=I.stkFree c (by rw[hs];exact z)
  rcases hc with rfl | hc
  ·rw[e] at hn;cases hn
  ·rw[hc] at hn;cases hn
 ·intro b o h n f
  exact inB b o (I.base.keep b o h n f (nex b)) (old b o h) f
 ·intro b o h f
  obtain⟨o',h'⟩:=I.base.there b o h (nex b)
  exact⟨o',inB b o' h' (old b o h) f⟩
 ·intro b o h f
  obtain⟨sl,e1⟩:=I.base.slot b o h (I.ok.frf b f) f (nex b)
  obtain⟨_,o',ho',hd⟩:=I.funs.mem f
  rw[e1] at ho'
  cases ho'
  obtain⟨sl',e2⟩:=(Heap.UpToSlots.of_keeps hm.keeps).trans up b _ e1 hd
  exact⟨sl',e2⟩
theorem kYx (I:Inv X pins σ H s) (hs:X.stack=X.env::X.outer) (hf:X.env.frame=some X.env.locals) (hex:X.ex=[]) (l:Lies X.prog X.w X.stack H s a C B a0 H' s') {Q:Unit->Shared->Prop}
  (k:∀h',Lies X.prog X.w X.outer X.H₀ X.s₀ a C B a0 H' {s' with heap:=h'}->Q () {s' with heap:=h'}):wpAny (model X.prog X.w) X.A (leaving X.env (.ref a)) Q E s':=by
 have hfr:X.A.frames=some (X.env::X.outer):=by rw[I.ok.frames,hs]
 have sub:∀b,b∈frs X.stack↔b=X.env.locals\/b∈frs X.outer:=fun b=>by
  rw[hs];unfold frs;rw[List.filterMap_cons,hf];exact List.mem_cons
 have nex:∀b,b∉X.ex:=fun b=>by rw[hex];exact List.not_mem_nil
 have old:∀b o,X.s₀.heap.get? b=some o->b≠X.env.locals:=fun b o h z=>by
  rw[z] at h;exact absurd (Heap.lt_size h) (Nat.not_lt.mpr I.ok.above)
 have nst:∀b o,X.s₀.heap.get? b=some o->b∉frs X.outer->b∉frs X.stack:=fun b o h f z=>((sub b).mp z).elim (old b o h) f
 refine wpAny_leaves_onW hfr hf (by rw[<-hs];exact l.fly) fun h' fl up=>k h' ⟨l.os.trans I.os,l.bare,fl,l.hok,?_,?_,?_,?_,?_,?_,?_⟩
 ·intro b o h n f
  exact l.keep b o (I.base.keep b o h n f (nex b)) (I.base.free b o h n (nex b)) (nst b o h f)
 ·intro b o h f
  obtain⟨o',e⟩:=I.base.there b o h (nex b)
  exact l.there b o' e (nst b o h f)
 ·intro b o h f
  obtain⟨sl,e1⟩:=I.base.slot b o h (I.ok.frf b f) f (nex b)
  obtain⟨sl',e2⟩:=l.slot b _ e1 ((sub b).mpr (.inr f))
  obtain⟨_,o',ho',hd⟩:=I.funs.mem f
  rw[e1] at ho'
  cases ho'
  obtain⟨sl3,e3⟩:=up b _ e2 hd
  exact⟨sl3,e3⟩
 ·intro b o h n
  obtain⟨o',e⟩:=I.base.there b o h (nex b)
  exact l.free b o' e (I.base.free b o h n (nex b))
 ·exact fun b xs h=>l.tups b xs (I.base.tups b xs h)
 ·exact fun b o u h=>l.frzs b o u (I.base.frzs b o u h)
 ·intro b ps h
  obtain⟨m1,e1⟩:=I.base.tbls b ps h
  obtain⟨m2,e2⟩:=l.tbls b _ e1
  exact⟨m1++m2,by rw[e2,Array.append_assoc]⟩
theorem kQs (I:Inv X pins σ H s) (l:Lies X.prog X.w X.stack H s a C B a0 H' s') (hs:X.stack=X.env::X.outer) (hf:X.env.frame=some X.env.locals) {Q:Unit->Shared->Prop}
  (k:∀h',Inv X pins σ H' {s' with heap:=h'}->Lies X.prog X.w X.stack H s a C B a0 H' {s' with heap:=h'}->Q () {s' with heap:=h'}):
  wpAny (model X.prog X.w) X.A (noteFrame (.ref a) X.env) (fun _ s2=>wpAny (model X.prog X.w) X.A (setFlight (.ref a) none) Q E s2) E s':=by
 have hfr:X.A.frames=some (X.env::X.outer):=by rw[I.ok.frames,hs]
 refine wpAny_looks_onW hfr hf (by rw[<-hs];exact l.fly) fun h1 hd up1=> ?_
 refine wpAny_landsW (s:={s' with heap:=h1}) hd fun h2 fl up2=> ?_
 have l2:Lies X.prog X.w X.stack H s a C B a0 H' {s' with heap:=h2}:=by
  refine⟨l.os,l.bare,by rw[hs];exact fl,l.hok,l.keep,l.there,fun b o h f=> ?_,l.free,l.tups,l.frzs,l.tbls⟩
  obtain⟨sl,e⟩:=l.slot b o h f
  obtain⟨_,o',ho',hd'⟩:=I.stack.mem f
  rw[h] at ho'
  cases ho'
  obtain⟨sl2,e2⟩:=(up1.trans up2) b _ e hd'
  exact⟨sl2,e2⟩
 exact k h2 (I.call' l2.os l2.un (l2.hok.kept fun b u e=>l2.fly.1 b u e) l2.bare fun b z=>absurd z List.not_mem_nil) l2
end
abbrev XK3:=Str->Gp->Prop
abbrev SpX:=List T->Gp->VK3->XK3->Prop
def vmro:List Value:=[.type "ValueError",.type "Exception",.type "BaseException",.type "object"]
structure ExC (K:PySem.W.Frag) (mg:Str->Option Value) (cn:Str):Prop where
 ex:∃C,CN K cn C/\mg cn=some (.ref C)/\excIn K C vmro "ValueError.__new__"=true
theorem exc_at {K:PySem.W.Frag} {C:Addr} {bmB:List Value} {newId:String} (q:excIn K C bmB newId=true):
  ∃bm N nm qn bs hdct sn sub ab col dd k0 k1 k2 k3 k5,K.lookup C=some (excClassObj nm qn C N bs bm hdct sn sub ab col dd k0 k1 k2 k3 k5 newId)/\nsOkIn K N=true/\nsIn K N "__init__"=some none/\tailIn K bmB bm=true:=by
 unfold excIn at q
 split at q
 ·rename_i dd cd sl ho
  split at q
  ·rename_i C' bm k0 k1 k2 k3 n k5 hm hs
   (simp only[Bool.and_eq_true,beq_iff_eq,Bool.not_eq_true'] at q)
   obtain⟨⟨⟨⟨⟨rfl,rfl⟩,z⟩,ht⟩,hok⟩,hni⟩:=q
   (obtain⟨nm,bs,mro,ns,qn,hd,sn,sub,ab,col,del⟩:=cd)
   dsimp only at hm z hok hni
   subst hm z
   have e:sl= #[k0,k1,k2,k3,some (.builtin n),k5]:=by
    obtain⟨l⟩:=sl
    simp only at hs
    rw[hs]
   subst e
   exact⟨bm,ns,nm,qn,bs,hd,sn,sub,ab,col,dd,k0,k1,k2,k3,k5,ho,hok,hni,ht⟩
  ·cases q
 ·cases q
theorem kYv {K:PySem.W.Frag} {h h':Heap} {N:Addr} {m:Str->Option Value} (X:K.In h) (X':K.In h') (e:nsOkIn K N=true) (hn:h.Ns N m):h'.Ns N m:=by
 unfold nsOkIn at e
 split at e
 ·rename_i ho
  obtain⟨o,es,ep,h1,r⟩:=hn
  have:=X _ _ ho
  rw[h1] at this
  cases this
  exact⟨_,es,ep,X' _ _ ho,r⟩
 ·cases e
theorem kK0 {h:Heap} {bm:List Value} (t:OwnTail h vmro bm):bm.contains (.type "BaseException")=true:=t.hasType (by decide)
def CXX (P:Program) (w:World):CXT:=fun outer H s E e s'=>∃a C B a0 H',e= .ref a/\Lies P w outer H s a C B a0 H' s'/\E e (some C) H'
structure XR (X:Cx) (R:XK3):Prop where
 raise_:∀(pins:List (Addr×Obj)) (σ:L2.St) (H1:Hp) (G1:Gp) (s1 s':Shared) (a C:Addr) (cn:Str) (args:List Value),Inv X pins σ H1 s1->GRel X.K H1 G1->CN X.K cn C->Heap.MadeExcOf s1.heap s'.heap a (.ref C) args->s'.os=s1.os->s'.gens=s1.gens->R cn G1->X.xe (.ref a) s'
 pass:∀(pins:List (Addr×Obj)) (σ:L2.St) (H1:Hp) (s1 s':Shared) (a C:Addr) (cn:Str) (B:Heap) (a0:Value) (H':Hp) (G':Gp),Inv X pins σ H1 s1->Lies X.prog X.w X.stack H1 s1 a C B a0 H' s'->GRel X.K H' G'->CN X.K cn C->R cn G'->X.xe (.ref a) s'
 own:PassesOwn (model X.prog X.w) X.A X.env X.xe
noncomputable def dnX (K:PySem.W.Frag) (n:Nat) (sp:SpX):Sp:=fun vs H Q E=>vs.length=n/\∃xs G,Reps K H xs vs/\GRel K H G/\sp xs G (fun t G'=>∀v H',Ext H H'->GRel K H' G'->Rep K H' t v->Q v H') (fun cn G'=>∀e C H',Ext H H'->GRel K H' G'->CN K cn C->E e (some C) H')
noncomputable def FnX (P:Program) (w:World) (K:PySem.W.Frag) (mg:Str->Option Value) (base:Heap) (k:Nat) (f:Addr) (fd:FuncData) (ps:List Str) (sp:SpX):Prop:=FnOk P w K mg base (CXX P w) k f fd ps (dnX K ps.length sp)
theorem fnX {P:Program} {w:World} {K:PySem.W.Frag} {mg:Str->Option Value} {base:Heap} {x qual:Str} {st:Stmt} {f:Addr} {fd:FuncData} {N ps:List Str} {k:Nat} {sp:SpX} (F:Fun K x qual st f fd) (S:FnScope N ps (jJk st))
  (hbody:∀(cdv:Value) (A:Around) (outer:List Env) (s:Shared) (H:Hp) (E:XK) (R:XK3),Room k (A.deeper (envOfC qual (jJk st) s.heap.objs.size f cdv))->XR (cxOf (CXX P w) P w K mg base N qual (jJk st) f cdv A outer s H E) R->
   ∃t,PSs3 (cxOf (CXX P w) P w K mg base N qual (jJk st) f cdv A outer s H E) (jKg st) t/\∀xs G Q,sp xs G Q R->t {nx:=fun _ G'=>Q .non G',rt:=Q} (jKu N xs) G):FnX P w K mg base (k+1) f fd ps sp:=by
 obtain⟨oc,od,kV,doc,pm,an,cdv,ct,osl,rfl,lk,hcd⟩:=F.ex
 refine fn_of (sp:=dnX K ps.length sp) lk hcd S (fun vs H Q E h=>h.1) fun A outer s H vs Q E hr hsp=> ?_
 obtain⟨hl,xs,G,rs,hg,hsp⟩:=hsp
 have hXR:XR (cxOf (CXX P w) P w K mg base N qual (jJk st) f cdv A outer s H E) (fun cn G'=>∀e C H',Ext H H'->GRel K H' G'->CN K cn C->E e (some C) H'):=by
  refine⟨?_,?_,PassesOwn.leaving⟩
  ·intro pins σ H1 G1 s1 s' a C cn args I g1 hc hm ho hg' hR
   exact kVy I rfl rfl rfl hm ho hg' fun B a0 h' l=>⟨a,C,B,a0,H1,rfl,l,hR (.ref a) C H1 ⟨I.base.tups,I.base.frzs⟩ g1 hc⟩
  ·intro pins σ H1 s1 s' a C cn B a0 H' G' I l g1 hc hR
   refine kYx I rfl rfl rfl l fun h' l'=>⟨a,C,B,a0,H',rfl,l',hR (.ref a) C H' ⟨l'.tups,l'.frzs⟩ g1 hc⟩
 obtain⟨t,ht,hq⟩:=hbody cdv A outer s H E _ hr hXR
 ·refine⟨fun D σ H1=>D.nx=(fun _ H'=>Q .non H')/\D.rt=Q/\σ=L2.start N vs/\H1=H,?_,rfl,rfl,rfl,rfl⟩
  rintro pins s1 σ1 H1 D I ⟨e1,e2,e3,e4⟩
  subst e3;subst e4
  have I3:Inv3 (cxOf (CXX P w) P w K mg base N qual (jJk st) f cdv A outer s H1 E) pins (jKu N xs) G H1 s1:=⟨_,I,jYw rs,hg⟩
  refine thn (ht pins s1 _ G H1 _ I3 (hq xs G _ hsp)) fun fl s2 z=> ?_
  cases fl with
  | next=>obtain⟨τ',G',H',e',⟨σ',I',a,b⟩,q⟩:=z;exact⟨σ',H',I',by rw[e1];exact q .non H' e' b rfl⟩
  | brk=>obtain⟨τ',G',H',e',_,q⟩:=z;exact q.elim
  | cont=>obtain⟨τ',G',H',e',_,q⟩:=z;exact q.elim
  | ret u=>obtain⟨x',τ',G',H',e',⟨σ',I',a,b⟩,⟨v,rv,ru⟩,q⟩:=z;exact⟨v,σ',H',I',ru,by rw[e2];exact q v H' e' b rv⟩
def kXm (sp:SpX):Prop:=∀xs G Q Q' R R',(∀t G',Q t G'->Q' t G')->(∀c G',R c G'->R' c G')->sp xs G Q R->sp xs G Q' R'
structure CalX (P:Program) (w:World) (K:PySem.W.Frag) (mg:Str->Option Value) (base:Heap) (k:Nat) (x:Str) (ps:List Str) (sp:SpX):Prop where
 ex:∃f fd,FnX P w K mg base k f fd ps sp/\mg x=some (.ref f)/\PySem.W.keepIn K (.ref f)=true/\Binds K fd ps []
 mono:kXm sp
 len:∀xs G Q R,sp xs G Q R->xs.length=ps.length
section
variable {X:Cx}
theorem kYf {k:Nat} {f:Addr} {fd:FuncData} {ps:List Str} {sp:SpX} {pins:List (Addr×Obj)} {σ:L2.St} {τ:St3} {H1:Hp} {G1:Gp} {s1:Shared} {xs:List T} {as:List V} {us:List Value} {Q:VK3} {R:XK3} {E:Value->Shared->Prop} (F:FnX X.prog X.w X.K X.mg X.base k f fd ps sp) (hr:Room k X.A) (hb:Binds X.K fd ps []) (mono:kXm sp) (len:∀xs G Q R,sp xs G Q R->xs.length=ps.length)
  (I1:Inv X pins σ H1 s1) (hs1:SRel X.K H1 σ τ) (hg1:GRel X.K H1 G1) (ras:Reps X.K H1 xs as) (rvs:Vals as us) (q:sp xs G1 Q R)
  (hE:∀a C cn B a0 H' G' s',Lies X.prog X.w X.stack H1 s1 a C B a0 H' s'->Ext H1 H'->GRel X.K H' G'->CN X.K cn C->R cn G'->E (.ref a) s'):
  wpAny (model X.prog X.w) X.A (call (.ref f) us) (EP3 X pins τ H1 Q) E s1:=by
 have hl:us.length=ps.length:=by rw[<-rvs.length,<-ras.length];exact len _ _ _ _ q
 refine wpAny_call (codeAny_mono (F.run X.A X.stack s1 H1 ⟨us,[]⟩ (us++[]) as (up X.K H1 Q) (fun _ c H'=>∃cn C G',c=some C/\CN X.K cn C/\Ext H1 H'/\GRel X.K H' G'/\R cn G') hr I1.env0 (hb s1 us I1.kIn (by rw[List.append_nil];exact hl)) (by rw[List.append_nil];exact rvs) ?_) fun r s' hq=> ?_)
 ·exact⟨by rw[<-ras.length];exact len _ _ _ _ q,xs,G1,ras,hg1,mono _ _ _ _ _ _ (fun t G' hq v H' e g r=>⟨t,G',e,g,r,hq⟩) (fun cn G' hR e C H' e1 g hc=>⟨cn,C,G',rfl,hc,e1,g,hR⟩) q⟩
 ·cases r with
  | error e=>
   obtain⟨a,C,B,a0,H',rfl,l,cn,C',G',ec,hc,e1,g,hR⟩:=(show CXX X.prog X.w X.stack H1 s1 (fun _ c H'=>∃cn C G',c=some C/\CN X.K cn C/\Ext H1 H'/\GRel X.K H' G'/\R cn G') e s' from hq)
   cases ec
   exact hE a C cn B a0 H' G' s' l e1 g hc hR
  | ok fl=>
   cases fl with
   | ret u=>exact jQt hs1 (I1.after hq)
   | next=>exact False.elim hq
   | brk=>exact False.elim hq
   | cont=>exact False.elim hq
def jZv (R:XK3) (cn:Str):TS3:=fun _ _ G=>R cn G
theorem kVe {R:XK3} {cn v:Str} {a:Expr} {np cpos pos:Pos} (hx:XR X R) (hC:ExC X.K X.mg cn) (hc:X.calm=true) (ha:PA3 X [a] (jJb (tC (.str v)) tNil)) (hg:Gl X cn:=by rfl) (hdb:(cn == ("__debug__":Str))=false:=by decide)
  (he:starEach [a] X.env=[(false,eval a X.env)]:=by rfl):
  PS3 X (.Raise (some (.Call (.Name cn np) [a] [] cpos)) none pos) (jZv R cn):=by
 intro pins s τ G H D I h
 obtain⟨C,hcn,hmg,hin⟩:=hC.ex
 obtain⟨σ,I0,hs,hgr⟩:=id I
 obtain⟨bm,N,nm,qn,bs,hdct,sn,sub,ab,col,dd,k0,k1,k2,k3,k5,hC0,hok,hni,ht⟩:=exc_at hin
 refine wpAny_Raise_call_subU (C:=C) (N:=N) (nm:=nm) (q:=qn) (bs:=bs) (bm:=bm) (hdct:=hdct) (sn:=sn) (sub:=sub) (ab:=ab) (col:=col) (dd:=dd) (k0:=k0) (k1:=k1) (k2:=k2) (k3:=k3) (k5:=k5) (mN:=s.heap.nsMap N) (bmB:=vmro) PySem.F.excBase_ValueError (by decide) PySem.F.excBase_ValueError (kK0 (tail_of_in I0.kIn ht)) (I0.ok.hd hc) (by rw[he];rfl) (nsMap_none_of_in I0.kIn hok hni) ?_
 refine jV8 I0 hg hmg ⟨rfl,?_⟩ hdb
 rw[show backTo cpos (starEach [a] X.env)=[(false,eval a X.env)] by rw[he];rfl]
 refine Calls.evalArgs_plain ?_
 have:=ha cpos pins s τ G H (fun ts G'=>ts.length=1/\R cn G') I ⟨rfl,h⟩
 rw[show backTo cpos (starEach [a] X.env)=[(false,eval a X.env)] by rw[he];rfl] at this
 refine thn this fun us s1 w_=>w_.el fun xs G1 H1 e1 i_ r_ q=>i_.el fun σ1 I1 hs1 hg1=>r_.el fun as ras rvs=> ?_
 have hl:us.length=1:=by rw[<-rvs.length,<-ras.length];exact q.1
 refine⟨rfl,by rw[hl];decide,I1.kIn _ _ hC0,kYv I0.kIn I1.kIn hok (.of_isNs (isNs_of_in I0.kIn hok)),tail_of_in I1.kIn ht,fun h' b hm=> ?_⟩
 exact hx.raise_ pins σ1 H1 G1 s1 {s1 with heap:=h'} b C cn us I1 hg1 hcn hm rfl rfl q.2
end
abbrev RX3:=Str->St3->Gp->Prop
abbrev TEx:=St3->Gp->VK3->RX3->Prop
abbrev TSx:=Ends3->RX3->St3->Gp->Prop
section
variable {X:Cx}
noncomputable def XP (X:Cx) (pins:List (Addr×Obj)) (H:Hp) (R:RX3) (e:Value) (s':Shared):Prop:=∃a C cn B a0 τ' G1 H1 s1 G' H',e= .ref a/\Ext H H1/\Inv3 X pins τ' G1 H1 s1/\Lies X.prog X.w X.stack H1 s1 a C B a0 H' s'/\Ext H1 H'/\GRel X.K H' G'/\CN X.K cn C/\R cn τ' G'
noncomputable def PEx (X:Cx) (e:Expr) (t:TEx):Prop:=∀(pins:List (Addr×Obj)) (s:Shared) (τ:St3) (G:Gp) (H:Hp) (Q:VK3) (R:RX3),Inv3 X pins τ G H s->t τ G Q R->wpAny (model X.prog X.w) X.A (eval e X.env) (EP3 X pins τ H Q) (XP X pins H R) s
noncomputable def PSx (X:Cx) (st:Stmt) (t:TSx):Prop:=∀(pins:List (Addr×Obj)) (s:Shared) (τ:St3) (G:Gp) (H:Hp) (D:Ends3) (R:RX3),Inv3 X pins τ G H s->t D R τ G->wpAny (model X.prog X.w) X.A (exec st X.env) (SP3 X pins H D) (XP X pins H R) s
noncomputable def PSsx (X:Cx) (st:List Stmt) (t:TSx):Prop:=∀(pins:List (Addr×Obj)) (s:Shared) (τ:St3) (G:Gp) (H:Hp) (D:Ends3) (R:RX3),Inv3 X pins τ G H s->t D R τ G->wpAny (model X.prog X.w) X.A (execs st X.env) (SP3 X pins H D) (XP X pins H R) s
def Calm (X:Cx):Prop:=∀e s,¬ X.xe e s
theorem Calm.any (h:Calm X) {α:Type} {m:Sem α} {Q:α->Shared->Prop} {E:Value->Shared->Prop} {s:Shared} (w:wpAny (model X.prog X.w) X.A m Q X.xe s):wpAny (model X.prog X.w) X.A m Q E s:=
 wpAny_mono w (fun _ _ z=>z) fun e s z=>absurd z (h e s)
def kX9 (sp:SpX) (t:TA3):TEx:=fun τ G Q R=>t τ G fun xs G1=>sp xs G1 Q fun cn G'=>R cn τ G'
theorem ex_cal {k:Nat} {ps:List Str} {sp:SpX} {x:Str} {p pos:Pos} {e:Expr} {es:List Expr} {t:TA3} (hn:Calm X) (C:CalX X.prog X.w X.K X.mg X.base k x ps sp) (hr:Room k X.A) (ha:PA3 X (e::es) t) (hg:Gl X x:=by rfl)
  (hdb:(x == ("__debug__":Str))=false:=by decide) (he:starEach (e::es) X.env=(false,eval e X.env)::starEach es X.env:=by rfl) (hpl:(backTo pos (starEach es X.env)).any (·.1)=false:=by rfl):
  PEx X (.Call (.Name x p) (e::es) [] pos) (kX9 sp t):=by
 intro pins s τ G H Q R I h
 obtain⟨f,fd,F,hm,hk,hb⟩:=C.ex
 obtain⟨σ0,I0,hs0,hg0⟩:=id I
 refine wpAny_Call_Name_kw (jV8 I0 hg hm ?_ hdb)
 refine PySem.W.callWith_K (h₀:=X.base) I0.ok.mod.kin hk (thn (hn.any (ha pos pins s τ G H _ I h)) fun us s1 w_=>w_.el fun xs G1 H1 e1 i_ r_ q=>i_.el fun σ I1 hs1 hg1=>r_.el fun as ras rvs=>⟨I1.kIn,?_⟩) he hpl
 refine thn (kYf F hr hb C.mono C.len I1 hs1 hg1 ras rvs q fun a C' cn B a0 H' G' s' l ex g hc hR=> ?_) fun u s' z=>z.ext e1
 exact⟨a,C',cn,B,a0,τ,G1,H1,s1,G',H',rfl,e1,⟨σ,I1,hs1,hg1⟩,l,ex,g,hc,hR⟩
def kX8 (te:TEx) (i:Nat):TSx:=fun D R τ G=>te τ G (fun v G1=>D.nx (τ.set i (some v)) G1) R
theorem sx_set {i:Nat} {x:Str} {e:Expr} {te:TEx} {pos pos':Pos} (hN:X.N.Nodup) (he:PEx X e te) (hi:X.N[i]? =some x:=by rfl) (hx:Loc X.env.scope x:=by first | exact Or.inl rfl | exact Or.inr rfl)
  (hs:swapsWith e (some (.Name x pos')) pos.line X.env=pure false:=by rfl) (hf:X.fn x=true\/X.env.scope.names.lookup x=some .local:=by first | exact .inl rfl | exact .inr rfl):
  PSx X (.Assign [.Name x pos'] e pos) (kX8 te i):=by
 intro pins s τ G H D R I h
 refine wpAny_Assign_Name (thn (he pins s τ G H _ R I h) fun v s1 w_=>w_.el fun y G1 H1 e1 i_ r_ q1=>i_.el fun σ I1 hs1 hg1=>r_.el fun a ra rv=> ?_) hs
 exact jK0 I1 hN hi hx rv (fun s2 I2=>⟨_,G1,H1,e1,⟨_,I2,hs1.set i ra,hg1⟩,q1⟩) hf
theorem kYa {st:Stmt} {t:TSx} (h1:PSx X st t):PSsx X [st] t:=by
 intro pins s τ G H D R I h
 refine wpAny_execs_cons (thn (h1 pins s τ G H D R I h) fun f s1 q=> ?_)
 cases f with
 | next=>exact wpAny_execs_nil q
 | ret v=>exact q
 | brk=>exact q
 | cont=>exact q
end
section
variable {X:Cx} {pins:List (Addr×Obj)} {σ:L2.St} {H H':Hp} {s s':Shared} {a C:Addr} {B:Heap} {a0:Value}
abbrev hX (X:Cx) (a:Addr):Cx:={X with A:=X.A.mark (some (.ref a)),calm:=false}
theorem Inv.mark (I:Inv X pins σ H s) (a:Addr):Inv (hX X a) pins σ H s:=
 ⟨⟨I.ok.mod,I.ok.kind,I.ok.glob,I.ok.blt,I.ok.above,I.ok.inj,I.ok.has,I.ok.cab,fun z=>Bool.noConfusion z,fun z=>Bool.noConfusion z,I.ok.frames,I.ok.stk,I.ok.exf,I.ok.bs,I.ok.bsz,I.ok.noex,I.ok.exfs,I.ok.funs,I.ok.frf⟩,I.os,I.bare,I.base,I.loc,I.cell,I.free,I.freeC,I.pin,I.hok,I.len⟩
theorem Inv.unmark (I:Inv (hX X a) pins σ H s) (ok:X.Ok):Inv X pins σ H s:=⟨ok,I.os,I.bare,I.base,I.loc,I.cell,I.free,I.freeC,I.pin,I.hok,I.len⟩
theorem Inv3.mark {τ:St3} {G:Gp} (I:Inv3 X pins τ G H s) (a:Addr):Inv3 (hX X a) pins τ G H s:=let ⟨σ,I,x,y⟩:=I;⟨σ,Inv.mark I a,x,y⟩
theorem Inv3.unmark {τ:St3} {G:Gp} (I:Inv3 (hX X a) pins τ G H s) (ok:X.Ok):Inv3 X pins τ G H s:=let ⟨σ,I,x,y⟩:=I;⟨σ,Inv.unmark I ok,x,y⟩
theorem kU2 {M:Model} {A:Around} {E:Value->Shared->Prop} {i:Nat} {x:Str} {v:V} {Q:Unit->Shared->Prop} (I:Inv X pins σ H s) (hN:X.N.Nodup) (hi:X.N[i]? =some x) (hk:X.env.scope.names.lookup x=some .local) (hv:σ[i]? =some (some v))
  (h:∀s',Inv X pins (σ.set i none) H s'->Q () s'):wpAny M A (unbindName X.env x) Q E s:=by
 obtain⟨m,hn,hl⟩:=id I.loc
 have hcls:(X.env.scope.kind == .class||(X.env.scope.kind == .module&&X.env.locals != X.env.globals))=false:=by rw[I.ok.kind];rfl
 have cne:=I.cne
 have hval:∃u,m x=some u:=by
  obtain⟨u,_,q⟩:=hl i x v hi hv (.inl hk)
  rcases q with ⟨_,e⟩ | ⟨k,_⟩
  ·exact⟨u,e⟩
  ·rcases k with k | k<;>(rw[show X.env.kindOf x=some .local from hk] at k;cases k)
 obtain⟨u0,hu0⟩:=hval
 obtain⟨oL,_,_,hoL,_⟩:=id hn
 refine wpAny_unbindName_local hk hn hu0 hcls fun h' u hn' hs=> ?_
 refine h _ ⟨I.ok,I.os,I.bare,⟨fun b o e n hb hx=> ?_,fun b o e n hb hx=> ?_,I.base.free,fun b o e hx=> ?_,I.base.tups,I.base.frzs,I.base.tbls⟩,⟨_,hn',fun j y v' e1 e2 e3=> ?_⟩,fun y c e=> ?_,I.free,I.freeC,fun p hp=> ?_,fun b ob e=> ?_,by simpa using I.len⟩
 ·exact (hs.2 b (Nat.ne_of_lt (Nat.lt_of_lt_of_le (Heap.lt_size e) I.ok.above))).trans (I.base.keep b o e n hb hx)
 ·obtain⟨sl,e1⟩:=I.base.slot b o e n hb hx
  exact⟨sl,(hs.2 b (Nat.ne_of_lt (Nat.lt_of_lt_of_le (Heap.lt_size e) I.ok.above))).trans e1⟩
 ·obtain⟨o',e1⟩:=I.base.there b o e hx
  exact⟨o',(hs.2 b (Nat.ne_of_lt (Nat.lt_of_lt_of_le (Heap.lt_size e) I.ok.above))).trans e1⟩
 ·by_cases hj:j=i
  ·subst hj
   by_cases hlt:j<σ.length
   ·rw[List.getElem?_set_self hlt] at e2;cases e2
   ·rw[List.getElem?_eq_none (by simpa using Nat.not_lt.mp hlt)] at e2;cases e2
  ·rw[List.getElem?_set_ne (Ne.symm hj)] at e2
   obtain⟨u',r',q⟩:=hl j y v' e1 e2 e3
   refine⟨u',r',?_⟩
   rcases q with ⟨k,e⟩ | ⟨k,c,e,z⟩
   ·refine .inl ⟨k,?_⟩
    have:y≠x:=fun e=>hj (jYi hN e1 (e▸hi))
    simp[this,e]
   ·exact .inr ⟨k,c,e,z.sameBut hs (cne y c e)⟩
 ·obtain⟨w',z⟩:=I.cell y c e
  exact⟨w',z.sameBut hs (cne y c e)⟩
 ·obtain⟨e,n,ne,nf,d⟩:=I.pin p hp
  exact⟨(hs.2 p.1 ne).trans e,n,ne,nf,d⟩
 ·refine (I.hok b ob e).stay (fun c w' hc q=>(hs.2 c ?_).trans q) (fun _ q=>q) fun _ _ q=>q
  rintro rfl
  rcases hc with rfl | hc
  ·rw[I.free] at e;cases e
  ·rw[I.free] at hc;cases hc
theorem kQq {M:Model} {A:Around} {E:Value->Shared->Prop} {i:Nat} {x:Str} {pos:Pos} {Q:Unit->Shared->Prop} (I:Inv X pins σ H s) (hN:X.N.Nodup) (hi:X.N[i]? =some x) (hk:X.env.scope.names.lookup x=some .local)
  (h:∀s',Inv X pins (σ.set i none) H s'->Q () s'):wpAny M A (do bindName X.env x .none;unbindBehindTheSuite X.env x pos) Q E s:=by
 have hil:i<σ.length:=by rw[I.len];exact (List.getElem?_eq_some_iff.mp hi).1
 refine wpAny_bind (wpAny_bindName (jK0 (v:= .non) I hN hi (.inl hk) rfl (fun s1 I1=> ?_) (.inr hk)))
 unfold unbindBehindTheSuite
 refine wpAny_onRaise (kU2 (v:= .non) I1 hN hi hk (List.getElem?_set_self hil) fun s2 I2=>h s2 ?_)
 rw[List.set_set] at I2
 exact I2
theorem SRel.unset {K:PySem.W.Frag} {τ:St3} (h:SRel K H σ τ) (i:Nat):SRel K H (σ.set i none) (τ.set i none):=by
 refine⟨by simp[h.1],fun j u q=> ?_⟩
 by_cases hj:i=j
 ·subst hj
  by_cases hl:i<τ.length
  ·rw[List.getElem?_set_self hl] at q;cases q
  ·rw[List.getElem?_eq_none (by simpa using Nat.not_lt.mp hl)] at q;cases q
 ·rw[List.getElem?_set_ne hj] at q ⊢
  exact h.2 j u q
theorem Lies.new (I:Inv X pins σ H s) (l:Lies X.prog X.w X.stack H s a C B a0 H' s'):s.heap.get? a=none:=by
 cases e:s.heap.get? a with
 | none=>rfl
 | some o=>
  exfalso
  by_cases f:a∈frs X.stack
  ·obtain⟨_,o',ho',hd⟩:=I.stack.mem f
   rw[e] at ho';cases ho'
   obtain⟨sl,e2⟩:=l.slot a o e f
   obtain⟨oe,vs,T,oT,ts,he,hc,hdd,_⟩:=l.fly.2.2.2
   rw[e2] at he;cases he
   exact hd vs hdd
  ·obtain⟨o',e2⟩:=l.there a o e f
   rw[l.fly.2.1] at e2;cases e2
theorem Lies.again {E:Value->Shared->Prop} {A:Around} (I:Inv X pins σ H s) (l:Lies X.prog X.w X.stack H s a C B a0 H' s') {Q:Unit->Shared->Prop} (k:∀h',Lies X.prog X.w X.stack H s a C B a0 H' {s' with heap:=h'}->Q () {s' with heap:=h'}):wpAny (model X.prog X.w) A (setFlight (.ref a) none) Q E s':=by
 refine lands_againW l.fly fun h2 fl up=>k h2 ⟨l.os,l.bare,fl,l.hok,l.keep,l.there,fun b o h f=> ?_,l.free,l.tups,l.frzs,l.tbls⟩
 obtain⟨sl,e⟩:=l.slot b o h f
 obtain⟨_,o',ho',hd'⟩:=I.stack.mem f
 rw[h] at ho'
 cases ho'
 obtain⟨sl2,e2⟩:=up b _ e hd'
 exact⟨sl2,e2⟩
theorem kVz (I:Inv X pins σ H s) (l:Lies X.prog X.w X.stack H s a C B a0 H' s'):∃ob,ob.cls= .ref C/\Inv X pins σ (upd H' a (.frz ob (.ext fun h=>h.get? a=some ob))) s':=by
 obtain⟨ob,hob,hcl⟩:=l.fly.there
 have na:=l.na
 have new:=Lies.new I l
 have u:=l.un
 have hok:=l.hok.kept fun b u e=>l.fly.1 b u e
 refine⟨ob,hcl,I.call' (ch:=[]) l.os ⟨u.keep,u.slot,fun b o h n x=> ?_,u.there,fun b xs h=> ?_,fun b o w h=> ?_,fun b ps h=> ?_⟩ (fun b o e=> ?_) l.bare fun b z=>absurd z List.not_mem_nil⟩
 ·rw[jJr (fun z=>by rw[z,new] at h;cases h)];exact u.free b o h n x
 ·rw[jJr (fun z=>by have:=u.tups b xs h;rw[z,na] at this;cases this)];exact u.tups b xs h
 ·rw[jJr (fun z=>by have:=u.frzs b o w h;rw[z,na] at this;cases this)];exact u.frzs b o w h
 ·obtain⟨m,e⟩:=u.tbls b ps h
  exact⟨m,by rw[jJr (fun z=>by rw[z,na] at e;cases e)];exact e⟩
 ·by_cases hb:b=a
  ·subst hb
   rw[jJ1] at e;cases e
   exact⟨hob,hob,⟨ob,hob⟩,fun h1 h2 p k=>k ob p⟩
  ·rw[jJr hb] at e
   refine (hok b o e).stay (fun c w' _ q=>q) (fun c q=> ?_) fun c xs q=> ?_
   ·rw[jJr (fun z=>by rw[z,na] at q;cases q)];exact q
   ·rw[jJr (fun z=>by rw[z,na] at q;cases q)];exact q
end
structure ExSub (K:PySem.W.Frag) (mg:Str->Option Value) (cn c:Str) (b:Bool):Prop where
 ex:∃C D,CN K cn C/\mg c=some (.ref D)/\exmOne K (.ref C) (.ref D)=some b
section
variable {X:Cx}
noncomputable def tTry (i:Nat) (cs:List Str) (tb:TSx) (th:TS3):TS3:=fun D τ G=>tb D (fun cn τ' G'=>cn∈cs/\∀a,G' a=none->th {nx:=fun τ2 G2=>D.nx (τ2.set i none) G2,rt:=fun _ _=>False} (τ'.set i (some (.ref a))) (gup G' a (.exc cn))) τ G
theorem s_try {body:List Stmt} {b0:Stmt} {bs:List Stmt} {c n:Str} {i:Nat} {cs:List Str} {tb:TSx} {th:TS3} {np hpos pos:Pos} (hn:Calm X) (hN:X.N.Nodup) (hb:PSsx X body tb) (hh:∀a,PSs3 (hX X a) (b0::bs) th) (hcs:∀cn,cn∈cs->ExSub X.K X.mg cn c true)
  (hst:X.stack=X.env::X.outer:=by rfl) (hfr:X.env.frame=some X.env.locals:=by rfl) (hi:X.N[i]? =some n:=by rfl) (hk:X.env.scope.names.lookup n=some .local:=by rfl) (hg:Gl X c:=by rfl) (hdb:(c == ("__debug__":Str))=false:=by decide):
  PS3 X (.Try body [.ExceptHandler (some (.Name c np)) (some n) (b0::bs) hpos] [] [] pos) (tTry i cs tb th):=by
 intro pins s τ G H D I h
 refine wpAny_Try_except (wpAny_mono (hb pins s τ G H D _ I h) (fun f s1 q=> ?_) fun e s1 q=> ?_)
 ·cases f with
  | next=>exact wpAny_execs_nil q
  | ret v=>exact q
  | brk=>exact q
  | cont=>exact q
 obtain⟨a,C,cn,B,a0,τ',G1,H1,s2,G',H',rfl,e1,I1,l,e2,g,hc,hin,hR⟩:=q
 obtain⟨σ,I2,hs2,hg2⟩:=I1
 obtain⟨C',Dc,hC',hmg,hx⟩:=(hcs cn hin).ex
 cases hC'.one hc
 refine kQs I2 l hst hfr fun h3 I3 l3=> ?_
 refine wpAny_handleBy_cons (codeAny_handlers_test (jV8 (X:=hX X a) (Inv.mark I3 a) hg hmg ?_ hdb)) (by intro q;cases q)
 obtain⟨ob,hob,hcl⟩:=l3.fly.there
 have LT:Looks (model X.prog X.w) h3 (typeOf (.ref a)) (.ref C):=hcl▸(Looks.ld (part:=none) hob).andThen .now
 refine (exm_one (K:=X.K) I3.kIn LT hx).at ?_
 (refine codeAny_handlers_suite_as ?_)
 refine Lies.again (X:=X) I2 l3 fun h4 l4=> ?_
 obtain⟨ob4,hcl4,I4⟩:=kVz I2 l4
 have ea:Ext H' (upd H' a (.frz ob4 (.ext fun h=>h.get? a=some ob4))):= .upd (.none l4.na)
 refine jK0 (v:= .ref a) I4 hN hi (.inl hk) rfl (fun s5 I5=> ?_) (.inr hk)
 have hs5:SRel X.K (upd H' a (.frz ob4 (.ext fun h=>h.get? a=some ob4))) (σ.set i (some (.ref a))) (τ'.set i (some (.ref a))):=((hs2.mono e2).mono ea).set i rfl
 have ga:G' a=none:=g.fresh l4.na
 have hg5:GRel X.K (upd H' a (.frz ob4 (.ext fun h=>h.get? a=some ob4))) (gup G' a (.exc cn)):=g.upd (.none l4.na) ⟨ob4,C,_,jJ1,hcl4,hc⟩
 have:=hh a pins s5 _ _ _ _ (Inv3.mark ⟨_,I5,hs5,hg5⟩ a) (hR a ga)
 refine wpAny_mono this (fun f s6 q=> ?_) fun e s6 q=>absurd q (hn e s6)
 cases f with
 | next=>
  obtain⟨τ6,G6,H6,e6,I6,q⟩:=q
  obtain⟨σ6,I6,hs6,hg6⟩:=Inv3.unmark I6 I2.ok
  exact kQq I6 hN hi hk fun s7 I7=>⟨_,G6,H6,((e1.trans e2).trans ea).trans e6,⟨_,I7,hs6.unset i,hg6⟩,q⟩
 | ret v=>obtain⟨_,_,_,_,_,_,_,q⟩:=q;exact q.elim
 | brk=>obtain⟨_,_,_,_,_,q⟩:=q;exact q.elim
 | cont=>obtain⟨_,_,_,_,_,q⟩:=q;exact q.elim
end
structure ExK (K:PySem.W.Frag) (D:Addr):Prop where
 ga:findIn K (.ref D) "__getattribute__"=some (some (.builtin "BaseException.__getattribute__"))
 gt:findIn K (.ref D) "__getattr__"=some none
 cl:findIn K (.ref D) "__class__"=some (some (.builtin "object.__class__"))
 be:mroIn K D (.type "BaseException")=some true
 ob:mroIn K D (.type "object")=some true
 is:(clsIn K D).isSome=true
section
variable {prog:Program} {w:World} {A:Around} {E:Value->Shared->Prop} {s:Shared} {K:PySem.W.Frag} {x D:Addr} {ox:Obj}
open PySem.Builtin PySem.Builtin.ObjectAttr PySem.Builtin.Getset_descriptor in
theorem kKq {C:Addr} {tp:Value} {R:Result->Shared->Prop} (X:K.In s.heap) (L0:Looks (model prog w) s.heap (typeOf (.ref x)) (.ref C)) (hm:mroIn K C (.type "object")=some true) (h:R (.ok (.ret (.ref C))) s):codeAny (model prog w) A (.call (.builtin "getset_descriptor.__get__") ⟨[.builtin "object.__class__",.ref x,tp],[]⟩) R s:=by
 (obtain⟨hh,g,dr,t,os⟩:=s)
 (have L1:=looks_mroIn (M:=model prog w) X hm)
 (refine codeAny_call_builtin KF.slot_gs.plain KF.entry_gs (KF.slot_gs.check _ _ _ _ _ _ _ _ KF.type_class (KF.args_gs _ _ _) ?_))
 (unfold Builtin.«getset_descriptor.__get__» descrGet)
 rw[dga_obj]
 refine wpAny_bind (wpAny_pure ?_)
 (unfold descrGetter descrCheckInstance descrNameAndClass isInstance)
 simp only[KF.owner_class]
 repeat lk
 (refine⟨Code.quiet_builtin _ (by decide +kernel),codeAny_builtin KF.entry_class ?_⟩)
 (unfold Builtin.«object.__class__» shownTypeOf)
 repeat lk
 exact h
theorem kQ8 {Q:Option Value->Shared->Prop} (X:K.In s.heap) (L0:Looks (model prog w) s.heap (typeOf (.ref x)) (.ref D)) (e:ExK K D) (h:Q (some (.ref D)) {s with toks:=s.toks+1}):wpAny (model prog w) A (getAttr? (.ref x) "__class__") Q E s:=by
 obtain⟨hh,g,d,t,os⟩:=s
 have L1:=looks_findIn (M:=model prog w) X e.ga
 have L2:=looks_findIn (M:=model prog w) X e.cl
 have L3:=looks_findIn (M:=model prog w) X e.gt
 have L4:=looks_mroIn (M:=model prog w) X e.be
 (have hx2:(Value.builtin "BaseException.__getattribute__" == Value.builtin "object.__getattribute__")=false:=by decide +kernel)
 have hx1:(onTheHeap (Value.ref D)&&Value.builtin "BaseException.__getattribute__" == Value.builtin "object.__getattribute__")=false:=by rw[hx2];rfl
 have f3:=PySem.F.attrBase_ValueError.ga.bind (.ref x)
 (unfold getAttr? getAttrBy? getAttrBy)
 (refine wpAny_bind (wpAny_mkText (wpAny_bind (wpAny_attempt (wpAny_holding (wpAny_bind (L0.at (wpAny_bind (L1.at ?_)))))))))
 dsimp only
 rw[hx1]
 (simp only[Bool.false_eq_true,if_false])
 unfold getAttrByItsOwn
 have X':K.In hh:=X
 have L0:Looks (model prog w) hh (typeOf (Value.ref x)) (Value.ref D):=L0
 have L1:Looks (model prog w) hh (typeLookup (Value.ref D) (Str.ofString "__getattribute__")) (some (Value.builtin "BaseException.__getattribute__")):=L1
 have L2:Looks (model prog w) hh (typeLookup (Value.ref D) (Str.ofString "__class__")) (some (Value.builtin "object.__class__")):=L2
 have L3:Looks (model prog w) hh (typeLookup (Value.ref D) (Str.ofString "__getattr__")) none:=L3
 have L4:Looks (model prog w) hh (isSubtype (Value.ref D) (Value.type "BaseException")) true:=L4
 have key:∀(A:Around) (R:Result->Shared->Prop),R (.ok (.ret (.ref D))) ⟨hh,g,d,t+1,os⟩->codeAny (model prog w) A (.call (.builtin "BaseException.__getattribute__") ⟨[.ref x,.str (Str.ofString "__class__") t],[]⟩) R ⟨hh,g,d,t+1,os⟩:=by
  intro A R hR
  refine codeAny_call_builtin PySem.F.attrBase_ValueError.ga.plain PySem.F.entry_bexc_ga ?_
  (have hk:builtinKind "BaseException.__getattribute__"=some .slot:=by decide +kernel)
  (have hsplit:splitId "BaseException.__getattribute__"=some ("BaseException","__getattribute__"):=by decide +kernel)
  have ha:=PySem.F.args_bexc_ga (.ref x) (.str (Str.ofString "__class__") t)
  (simp only[checkBuiltinCall,hk,hsplit])
  refine wpAny_bind (wpAny_bind (L0.at (L4.at ?_)))
  rw[if_neg (by decide)]
  have hT5:(⟨hh,g,d,t+1,os⟩:Shared).TypeIs (.builtin "object.__class__") "getset_descriptor":=PySem.F.typeOf_object_class
  have f5:=PySem.F.typeOf_object_class
  have f6:=PySem.F.slot_gs_get.lookup
  have f7:=PySem.F.slot_gs_set.lookup
  repeat (any_goals (first | assumption | with_reducible refine L0.at ?_ | with_reducible refine L2.at ?_ | wp_step))
  refine kKq (s:=⟨hh,g,d,t+1,os⟩) X' L0 e.ob ?_
  (repeat (any_goals (first | assumption | wp_step)))
 unfold hookBefore
 rw[if_pos (show onTheHeap (Value.ref D)=true from rfl)]
 refine wpAny_bind (L3.at ?_)
 (refine wpAny_bind (wpAny_attempt (wpAny_holding ?_)))
 unfold callGetattribute
 rw[if_neg (by decide)]
 unfold boundAndCalled
 rw[f3]
 refine wpAny_bind (wpAny_pure ?_)
 refine (show wpAny _ _ (call (Value.builtin "BaseException.__getattribute__") [Value.ref x,Value.str (Str.ofString "__class__") t]) _ _ _ from wpAny_call (key _ _ ?_))
 (exact wpAny_pure (wpAny_pure h))
def ExAt (x D:Addr) (h:Heap):Prop:=∃ob,h.get? x=some ob/\ob.cls= .ref D
theorem ExAt.ty {M:Model} {h:Heap} (p:ExAt x D h):Looks M h (typeOf (.ref x)) (.ref D):=by
 obtain⟨ob,h1,h2⟩:=p
 exact h2▸(Looks.ld (part:=none) h1).andThen .now
theorem kV1 (e:ExK K D):KitX K (.ref x) (.ref D) (ExAt x D) where
 ty:=fun _ _ _ p=>p.ty
 it:=fun _ _ X _=>by
  obtain⟨cd,hc⟩:=Option.isSome_iff_exists.mp e.is
  unfold clsIn at hc
  split at hc
  ·rename_i ho
   intro A' Q' E' s' k q
   unfold isType loadHead
   (exact wpAny_bind (wpAny_loadPart (k _ _ (X _ _ ho)) (wpAny_pure q)))
  ·cases hc
 ne:=fun h0 tp d0 is0 n0 l0 X htp=>by
  obtain⟨cd,hc⟩:=Option.isSome_iff_exists.mp e.is
  (refine Bool.eq_false_iff.mpr fun q=> ?_)
  have z:D=tp:=Value.ref.inj (beq_iff_eq.mp q)
  subst z
  unfold clsIn at hc
  split at hc
  ·rename_i ho
   (have z:=(X _ _ ho).symm.trans htp)
   cases z
  ·cases hc
 ca:=fun X p k=>kQ8 X p.ty e k
end
def ClsV (mg:Str->Option Value) (c:Str) (v:Value):Prop:=mg c=some v\/(mg c=none/\bootBuiltins c=some v)
structure IsX (K:PySem.W.Frag) (mg:Str->Option Value) (cs:List Str) (cn:Str) (b:Bool):Prop where
 ex:∃D vs,CN K cn D/\ExK K D/\Paired (fun c v=>ClsV mg c v) cs vs/\kitAny K (.ref D) vs=some b
theorem kKl {K:PySem.W.Frag} {t c:Value} {b:Bool} (h:kitAny K t [c]=some b):kitOne K t c=some b:=by
 unfold kitAny at h
 split at h
 ·rename_i e;cases h;exact e
 ·rename_i e;rw[e];exact h
 ·cases h
def clsT:Value->T
 | .ref C=> .ref C
 | .type n=> .ty n
 | _=> .non
section
variable {X:Cx}
def jVy (rel:List (Str×Bool)) (tx:TE3):TE3:=fun τ G Q=>tx τ G fun x G1=>∃a cn b,x= .ref a/\G1 a=some (.exc cn)/\(cn,b)∈rel/\Q (.bl b) G1
theorem exc_rd {pins:List (Addr×Obj)} {τ:St3} {G:Gp} {H:Hp} {s:Shared} {a:Addr} {cn:Str} {D:Addr} (I:Inv3 X pins τ G H s) (h:G a=some (.exc cn)) (hD:CN X.K cn D):ExAt a D s.heap:=by
 obtain⟨σ,I0,_,hg⟩:=I
 obtain⟨ob,C,u,h1,h2,h3⟩:=(show ∃ob C u,H a=some (.frz ob u)/\ob.cls= .ref C/\PySem.W.nsIn X.K mainGlobals cn=some (some (.ref C)) from hg a _ h)
 cases CN.one hD h3
 exact⟨ob,(I0.hok a _ h1).1,h2⟩
theorem e_nm {c:Str} {v:Value} {pc:Pos} (hv:ClsV X.mg c v) (hc:∃C,v= .ref C\/∃n,v= .type n) (hg:Gl X c) (hn:c≠"__name__") (hdb:(c == ("__debug__":Str))=false):PE3 X (.Name c pc) (tC (clsT v)):=by
 intro pins s τ G H Q I h
 obtain⟨σ,I0,_,_⟩:=id I
 have e:EP3 X pins τ H Q v s:=by
  obtain⟨C,rfl | ⟨n,rfl⟩⟩:=hc
  ·exact⟨.ref C,G,H,.refl H,I,⟨.ref C,rfl,rfl⟩,h⟩
  ·exact⟨.ty n,G,H,.refl H,I,⟨.ty n,rfl,rfl⟩,h⟩
 rcases hv with hv | ⟨h1,h2⟩
 ·exact jV8 I0 hg hv e hdb
 ·exact jUf I0 hg h1 h2 e hn hdb
theorem jUj {rel:List (Str×Bool)} {c:Str} {x:Expr} {tx:TE3} {p pc pos:Pos} (hrel:∀cn b,(cn,b)∈rel->IsX X.K X.mg [c] cn b) (hcl:∃v,ClsV X.mg c v/\∃C,v= .ref C\/∃n,v= .type n) (hx:PE3 X x tx) (hm:X.mg "isinstance"=none) (hg:Gl X "isinstance":=by rfl) (hgc:Gl X c:=by rfl) (hn:c≠"__name__":=by decide) (hdb:(c == ("__debug__":Str))=false:=by decide)
  (he:starEach [x,.Name c pc] X.env=(false,eval x X.env)::starEach [.Name c pc] X.env:=by rfl) (he2:starEach [.Name c pc] X.env=[(false,eval (.Name c pc) X.env)]:=by rfl) (hpl:(backTo pos (starEach [.Name c pc] X.env)).any (·.1)=false:=by rfl):
  PE3 X (.Call (.Name "isinstance" p) [x,.Name c pc] [] pos) (jVy rel tx):=by
 obtain⟨v,hv,hvc⟩:=hcl
 intro pins s τ G H Q I h
 obtain⟨σ,I0,_,_⟩:=id I
 refine wpAny_Call_Name_kw (jUf I0 hg hm rfl ?_ (by decide) (by decide))
 refine PyProof.Rows.callWith_builtin1 ?_ he hpl
 rw[he,he2]
 refine Calls.spliced_cons (thn (hx pins s τ G H _ I h) fun u s1 w_=>w_.el fun y G1 H1 e1 I1 r1 q1=>Calls.spliced_cons (thn (e_nm hv hvc hgc hn hdb pins s1 τ G1 H1 (fun t G2=>t=clsT v/\G2=G1) I1 ⟨rfl,rfl⟩) fun u2 s2 w2=>Calls.spliced_nil ?_))
 obtain⟨t2,G2,H2,e2,I2,r2,rfl,rfl⟩:=w2
 obtain⟨a,cn,b,rfl,hG,hin,q⟩:=q1
 obtain⟨D,vs,hD,hk,hp,hka⟩:=(hrel cn b hin).ex
 obtain⟨v1,z1,z2⟩:=r1
 cases z1;cases z2
 have hu2:u2=v:=by
  obtain⟨v2,y1,y2⟩:=r2
  obtain⟨C,rfl | ⟨n,rfl⟩⟩:=hvc
  ·cases y1;cases y2;rfl
  ·cases y1;cases y2;rfl
 subst hu2
 cases hp with
 | @cons _ v' _ _ hc hr=>
 cases hr
 have:v'=u2:=by
  rcases hc with h1 | ⟨h1,h2⟩<;>rcases hv with h3 | ⟨h3,h4⟩
  ·rw[h1] at h3;exact Option.some.inj h3
  ·rw[h1] at h3;cases h3
  ·rw[h1] at h3;cases h3
  ·rw[h2] at h4;exact Option.some.inj h4
 subst this
 obtain⟨σ2,J2,_,_⟩:=id I2
 exact kia_one (kV1 hk) J2.kIn (exc_rd I2 hG hD) (kKl hka) (by intro q;cases q) fun tk=>⟨.bl b,G2,H2,e1.trans e2,I2.tok tk,⟨.bl b,rfl,rfl⟩,q⟩
def Cl1 (v:Value):Prop:=∃C,v= .ref C\/∃n,v= .type n
theorem exc_mk {K:PySem.W.Frag} {h:Heap} {mg:Str->Option Value} {cn:Str} {C:Addr} (X:K.In h) (G:h.Ns mainGlobals mg) (a:nsIn K mainGlobals cn=some (some (.ref C))) (q:excIn K C vmro "ValueError.__new__"=true):ExC K mg cn:=⟨C,a,mg_of X G a,q⟩
theorem exsub_mk {K:PySem.W.Frag} {h:Heap} {mg:Str->Option Value} {cn c:Str} {C D:Addr} {v:Bool} (X:K.In h) (G:h.Ns mainGlobals mg) (a:nsIn K mainGlobals cn=some (some (.ref C))) (b:nsIn K mainGlobals c=some (some (.ref D))) (q:exmOne K (.ref C) (.ref D)=some v):ExSub K mg cn c v:=⟨C,D,a,mg_of X G b,q⟩
theorem clsv_own {K:PySem.W.Frag} {h:Heap} {mg:Str->Option Value} {c:Str} {D:Addr} (X:K.In h) (G:h.Ns mainGlobals mg) (b:nsIn K mainGlobals c=some (some (.ref D))):∃v,ClsV mg c v/\Cl1 v:=⟨.ref D,.inl (mg_of X G b),D,.inl rfl⟩
theorem clsv_blt {K:PySem.W.Frag} {h:Heap} {mg:Str->Option Value} {c:Str} {n:String} (X:K.In h) (G:h.Ns mainGlobals mg) (b:nsIn K mainGlobals c=some none) (e:bootBuiltins c=some (.type n)):∃v,ClsV mg c v/\Cl1 v:=⟨.type n,.inr ⟨mg_none_of X G b,e⟩,0,.inr ⟨n,rfl⟩⟩
end
end L3
namespace L3
open PySem
theorem rel1 {K:PySem.W.Frag} {mg:Str->Option Value} {cs:List Str} {cn:Str} {b:Bool} (h:IsX K mg cs cn b):∀cn' b',(cn',b')∈[(cn,b)]->IsX K mg cs cn' b':=fun cn' b' z=>by cases List.mem_singleton.mp z;exact h
theorem sub1 {K:PySem.W.Frag} {mg:Str->Option Value} {cn c:Str} (h:ExSub K mg cn c true):∀cn',cn'∈[cn]->ExSub K mg cn' c true:=fun cn' z=>by cases List.mem_singleton.mp z;exact h
end L3
namespace HT
open PySem PyProof.Rows
section
variable {prog:Program} {w:World} {A:Around} {E:Value->Shared->Prop} {s:Shared}
end
end HT
namespace L3
open PySem PySem.Spec PyProof.Rows L2
section
variable {X:Cx}
end
end L3
namespace W
open PySem L3
local macro_rules
 | `(tactic| wp_walk using 1, $ts,*) => do
  let ls ← ts.getElems.mapM fun t => `(Lean.Parser.Tactic.simpLemma| $t:term)
  let ns ← ("tSeq tIfS jJx tOp rGt rLt rGe rSub L3.rI0 L3.rI rIxF tVar tC tAsg tCB jJb tNil kYj rLen rAbs rMax kQg gTup jJu gNil gSub jJd jK8 tRet tRetN jJ6 jUq jJz tLst tTup tIf tNot tAnd tOr jVz tOrV tNotV tPar jJ4 jYf rMod kYi rPow rIsN rNotN jU1 tTru rTru truT tUn rNeg kXj kVv kVx kVw kZe kZf kY3 kY4 at0 at1 at2 ix30 ix31 ix32 kVc kVa kY5 kVd Option.map_some and_assoc T.int.injEq T.bl.injEq T.tup.injEq T.ref.injEq List.cons.injEq and_true true_and exists_eq_left exists_eq_left' exists_and_left exists_eq_right List.getElem?_cons_zero List.getElem?_cons_succ List.set_cons_zero List.set_cons_succ List.length_cons List.length_nil Nat.reduceAdd Option.some.injEq jJg kQ4 reduceCtorEq false_and exists_false exists_const Bool.true_eq Bool.not_eq_true' Bool.not_true Bool.not_false if_true if_false decide_eq_true_eq tBM jKx jUy jJ0 kU7 jK6 GO.lst.injEq msk List.zipWith_cons_cons List.zipWith_nil_left List.zipWith_nil_right Bool.false_eq_true kKv".splitOn " ").toArray.mapM fun n => `(Lean.Parser.Tactic.simpLemma| $(Lean.mkIdent n.toName):term)
  let al:=ns++ls
  `(tactic| ((try dsimp only [$al,*]); (try simp only [$al,*])))
local macro_rules
 | `(tactic| omega) => `(tactic| first | exact szle rfl | lia)
def BoxAt (G:Gp) (b:Addr) (n:Nat):Prop:=∃x y z:Int,G b=some (.lst [.int x,.int y,.int z])/\0<=x/\0<=y/\y<2147483648/\0<=z/\z<=n
def Keep (b:Addr) (G G':Gp):Prop:=∀c o,c≠b->G c=some o->G' c=some o
theorem Keep.refl (b:Addr) (G:Gp):Keep b G G:=fun _ _ _ h=>h
theorem Keep.trans {b:Addr} {G G1 G2:Gp} (h:Keep b G G1) (h':Keep b G1 G2):Keep b G G2:=fun c o hc e=>h' c o hc (h c o hc e)
theorem Keep.gup {b:Addr} {G:Gp} {o:GO}:Keep b G (gup G b o):=fun c u hc e=>by rw[jJp hc];exact e
theorem Keep.new {b p:Addr} {G:Gp} {o:GO} (hp:G p=none):Keep b G (L3.gup G p o):=fun c u _ e=>by rw[jJp];exact e;rintro rfl;rw[hp] at e;cases e
abbrev jKz (ns:List Int):List T:=ns.map T.int
theorem sz:sizeLine=16777216:=PySem.sizeLine_eq
abbrev Web:=List (List (Nat×Nat))
def encE (e:Nat×Nat):T:= .tup [.int e.1,.int e.2]
def encR (r:List (Nat×Nat)):T:= .tup (r.map encE)
def encW (W:Web):T:= .tup (W.map encR)
def en (W:Web) (r i:Nat):Option (Nat×Nat):=(W[r]?).bind fun es=>es[i]?
def Sym (W:Web):Prop:=∀r i s j,en W r i=some (s,j)->en W s j=some (r,i)
def sw:Nat->Nat
 | 0=>1
 | 1=>0
 | n=>n
noncomputable def RowsAt (G:Gp) (h:Addr) (Hs:Web) (rs:List Addr):Prop:=G h=some (.lst (rs.map T.ref))/\rs.length=Hs.length/\∀(i:Nat) (r:Addr),rs[i]? =some r->∃hs:List (Nat×Nat),Hs[i]? =some hs/\G r=some (.lst (hs.map encE))
theorem RowsAt.sub {G G':Gp} {h:Addr} {Hs:Web} {rs:List Addr} (s:Sub G G') (x:RowsAt G h Hs rs):RowsAt G' h Hs rs:=⟨s _ _ x.1,x.2.1,fun i r e=>let ⟨hs,h1,h2⟩:=x.2.2 i r e;⟨hs,h1,s _ _ h2⟩⟩
def keyE (e:Nat×Nat):L2.TKey:=[.inl (.inl (e.1:Int)),.inl (.inl (e.2:Int))]
theorem jYk {a b:Nat×Nat} (h:keyE a=keyE b):a=b:=by
 obtain⟨a1,a2⟩:=a;obtain⟨b1,b2⟩:=b
 simp only[keyE,List.cons.injEq,Sum.inl.injEq,and_true] at h
 obtain⟨h1,h2⟩:=h
 rw[Int.ofNat.inj h1,Int.ofNat.inj h2]
theorem jQw {κ:Type} [DecidableEq κ] (kvs:List (κ×T)) (k j:κ) (v:T):valT (putT kvs k v) j=if k=j then some v else valT kvs j:=by
 unfold putT valT
 by_cases h:(kvs.any fun kv=>decide (kv.1=k))=true
 ·rw[if_pos h]
  induction kvs with
  | nil=>simp at h
  | cons p ps ih=>
   rw[List.map_cons,List.find?_cons,List.find?_cons]
   by_cases hp:p.1=k
   ·rw[if_pos hp]
    by_cases hj:k=j
    ·simp[hp,hj]
    ·have h1:¬ p.1=j:=fun z=>hj (hp.symm.trans z)
     simp only[h1,decide_false,hj,if_false]
     by_cases h2:(ps.any fun kv=>decide (kv.1=k))=true
     ·have:=ih h2;rw[if_neg hj] at this;exact this
     ·have hm:ps.map (fun kv=>if kv.1=k then (kv.1,v) else kv)=ps:=by
       rw[List.map_congr_left (g:=id)];· simp
       intro a ha
       have:¬ a.1=k:=fun z=>h2 (List.any_eq_true.mpr ⟨a,ha,by simp[z]⟩)
       simp[this]
      rw[hm]
   ·rw[if_neg hp]
    have h2:(ps.any fun kv=>decide (kv.1=k))=true:=by
     rw[List.any_cons,decide_eq_false hp,Bool.false_or] at h;exact h
    have:=ih h2
    by_cases hj:p.1=j
    ·have:¬ k=j:=fun z=>hp (hj.trans z.symm)
     simp[hj,this]
    ·simp only[hj,decide_false];exact this
 ·rw[if_neg h,List.find?_append]
  have hn:(kvs.find? fun kv=>decide (kv.1=j))=none\/∃p,(kvs.find? fun kv=>decide (kv.1=j))=some p:=by
   cases kvs.find? fun kv=>decide (kv.1=j) with
   | none=>exact .inl rfl
   | some p=>exact .inr ⟨p,rfl⟩
  by_cases hj:k=j
  ·subst hj
   have:(kvs.find? fun kv=>decide (kv.1=k))=none:=by
    rw[List.find?_eq_none]
    intro a ha z
    exact h (List.any_eq_true.mpr ⟨a,ha,z⟩)
   simp[this]
  ·rcases hn with e | ⟨p,e⟩
   ·simp[e,hj]
   ·simp[e,hj]
theorem jUc {κ:Type} [DecidableEq κ] (kvs:List (κ×T)) (k:κ) (v:T):(putT kvs k v).length<=kvs.length+1:=by
 unfold putT;split<;>simp
theorem kZm {G:Gp} {p:Addr} {kvs:List (L2.TKey×T)} {ys:List T} {ks:L2.TKey} (h:G p=some (.dct kvs)) (hk:jVd ys=some ks):dAt G (.ref p) (.tup ys)=some (valT kvs ks):=by simp only[dAt,h,hk]
theorem jZ5 {G:Gp} {p:Addr} {kvs:List (L2.TKey×T)} {ys:List T} {ks:L2.TKey} {t:T} (h:G p=some (.dct kvs)) (hk:jVd ys=some ks) (ht:valT kvs ks=some t):ixR G (.ref p) (.tup ys)=some t:=by
 simp only[ixR,seqT,h,asL,kZm h hk,ht]
theorem jVl {G:Gp} {p:Addr} {kvs:List (L2.TKey×T)} {ys:List T} {ks:L2.TKey} {v:T} (h:G p=some (.dct kvs)) (hk:jVd ys=some ks) (hz:kvs.length<sizeLine):setR G (.ref p) (.tup ys) v=some (gup G p (.dct (putT kvs ks v))):=by
 simp only[setR,h,hk,hz,if_true]
theorem jK4 {W:Web} {r i:Nat} {e:Nat×Nat} (h:en W r i=some e):∃es,W[r]? =some es/\es[i]? =some e:=by
 unfold en at h
 cases e1:W[r]? with
 | none=>rw[e1] at h;cases h
 | some es=>rw[e1] at h;exact⟨es,rfl,h⟩
theorem jU4 {W:Web} {r i:Nat} {es:List (Nat×Nat)} {e:Nat×Nat} (h1:W[r]? =some es) (h2:es[i]? =some e):en W r i=some e:=by unfold en;rw[h1];exact h2
open Classical in
def oth (Hs:Web) (e:Nat×Nat):Nat×Nat:=if h:∃p:Nat×Nat,en Hs p.1 p.2=some (e.1,sw e.2) then h.choose else (0,0)
theorem jVn {n i:Nat} {x:T} (h:(rngT 0 n)[i]? =some x):i<n/\x= .int i:=by
 unfold rngT at h
 rw[List.getElem?_map] at h
 have hi:i<n:=by
  rcases Nat.lt_or_ge i n with z | z
  ·exact z
  ·rw[List.getElem?_eq_none (by simpa using z)] at h;cases h
 simp[hi] at h
 exact⟨hi,h.symm⟩
theorem jVm {n:Nat}:(rngT 0 n).length=n:=by simp[rngT]
theorem BoxAt.mono {G:Gp} {b:Addr} {n m:Nat} (h:BoxAt G b n) (hm:n<=m):BoxAt G b m:=by
 obtain⟨x,y,z,h1,h2,h3,h4,h5,h6⟩:=h
 exact⟨x,y,z,h1,h2,h3,h4,h5,by omega⟩
theorem BoxAt.some {G:Gp} {b:Addr} {n:Nat} (h:BoxAt G b n):∃o,G b=some o:=by
 obtain⟨x,y,z,h1,_⟩:=h
 exact⟨_,h1⟩
theorem BoxAt.sub {G G':Gp} {b:Addr} {n:Nat} (h:BoxAt G b n) (s:Sub G G'):BoxAt G' b n:=by
 obtain⟨x,y,z,h1,h2,h3,h4,h5,h6⟩:=h
 exact⟨x,y,z,s _ _ h1,h2,h3,h4,h5,h6⟩
theorem BoxAt.gup {G:Gp} {b p:Addr} {n:Nat} {o:GO} (h:BoxAt G b n) (hp:b≠p):BoxAt (gup G p o) b n:=by
 obtain⟨x,y,z,h1,h2,h3,h4,h5,h6⟩:=h
 exact⟨x,y,z,by rw[jJp hp];exact h1,h2,h3,h4,h5,h6⟩
theorem Keep.sub {b:Addr} {G G':Gp} (h:Sub G G'):Keep b G G':=fun c o _ e=>h c o e
theorem Keep.over {b p:Addr} {G G':Gp} {o:GO} (h:Keep b G G') (hp:G p=none):Keep b G (L3.gup G' p o):=fun c u hc e=>by rw[jJp];exact h c u hc e;rintro rfl;rw[hp] at e;cases e
theorem RowsAt.keep {b:Addr} {G G':Gp} {h:Addr} {Hs:Web} {rs:List Addr} (s:Keep b G G') (hb:b∉h::rs) (x:RowsAt G h Hs rs):RowsAt G' h Hs rs:=by
 simp only[List.mem_cons,not_or] at hb
 exact⟨s _ _ (Ne.symm hb.1) x.1,x.2.1,fun i r e=>let ⟨hs,h1,h2⟩:=x.2.2 i r e;⟨hs,h1,s _ _ (by rintro rfl;exact hb.2 (List.mem_of_getElem? e)) h2⟩⟩
theorem RowsAt.set {G:Gp} {h:Addr} {Hs:Web} {rs:List Addr} {r:Nat} {a:Addr} {hs':List (Nat×Nat)} (x:RowsAt G h Hs rs) (hn:(h::rs).Nodup) (hr:rs[r]? =some a):RowsAt (gup G a (.lst (hs'.map encE))) h (Hs.set r hs') rs:=by
 rw[List.nodup_cons] at hn
 have hrl:r<rs.length:=(List.getElem?_eq_some_iff.mp hr).1
 refine⟨by rw[jJp];exact x.1;rintro rfl;exact hn.1 (List.mem_of_getElem? hr),by rw[List.length_set];exact x.2.1,fun i c e=> ?_⟩
 by_cases hi:i=r
 ·subst hi
  rw[hr] at e;cases e
  exact⟨hs',by rw[List.getElem?_set_self];rw[<-x.2.1];exact hrl,jJg⟩
 ·obtain⟨hs,h1,h2⟩:=x.2.2 i c e
  refine⟨hs,by rw[List.getElem?_set_ne (Ne.symm hi)];exact h1,?_⟩
  rw[jJp];exact h2
  rintro rfl
  have hil:i<rs.length:=(List.getElem?_eq_some_iff.mp e).1
  exact hi ((List.getElem?_inj hil hn.2).mp (e.trans hr.symm))
def hv (n t:Nat) (p:Nat×Nat):List (Nat×Nat×Nat):=if p.2=n then [(p.1,t,2)] else [(p.1,t,0),(p.2,t,1)]
structure HalfL (L:List (Nat×Nat×Nat)) (n:Nat) (Hs:Web):Prop where
 len:Hs.length=n
 perm:∀(r:Nat) (hs:List (Nat×Nat)),Hs[r]? =some hs->hs.Perm ((L.filter fun x=>x.1 == r).map fun x=>x.2)
theorem ins_perm {α:Type} {xs:List α} {k:Nat} {y:α}:(xs.take k++y::xs.drop k).Perm (xs++[y]):=by
 have h1:(xs.take k++y::xs.drop k).Perm (y::(xs.take k++xs.drop k)):=List.perm_middle
 rw[List.take_append_drop] at h1
 exact h1.trans (List.perm_append_comm (l₁:=[y]) (l₂:=xs))
theorem HalfL.ins {L:List (Nat×Nat×Nat)} {n:Nat} {Hs:Web} {r k:Nat} {hs:List (Nat×Nat)} {e:Nat×Nat} (h:HalfL L n Hs) (hr:Hs[r]? =some hs):HalfL (L++[(r,e)]) n (Hs.set r (hs.take k++e::hs.drop k)) where
 len:=by rw[List.length_set];exact h.len
 perm:=fun r' hs' h'=>by
  have hrl:r<Hs.length:=(List.getElem?_eq_some_iff.mp hr).1
  rw[List.filter_append,List.map_append]
  by_cases hi:r'=r
  ·subst hi
   rw[List.getElem?_set_self hrl] at h'
   cases h'
   have:=h.perm r' hs hr
   refine ins_perm.trans ?_
   simp
   exact this.append_right [e]
  ·rw[List.getElem?_set_ne (Ne.symm hi)] at h'
   have:=h.perm r' hs' h'
   have hne:¬ r=r':=fun z=>hi z.symm
   simp[hne]
   exact this
theorem HalfL.mem {L:List (Nat×Nat×Nat)} {n:Nat} {Hs:Web} {r i:Nat} {e:Nat×Nat} (h:HalfL L n Hs) (he:en Hs r i=some e):(r,e)∈L:=by
 obtain⟨es,h1,h2⟩:=jK4 he
 have:=(h.perm r es h1).mem_iff.mp (List.mem_of_getElem? h2)
 obtain⟨⟨r',e'⟩,h3,rfl⟩:=List.mem_map.mp this
 obtain⟨h4,h5⟩:=List.mem_filter.mp h3
 have:r'=r:=by simpa using h5
 subst this;exact h4
theorem HalfL.of {L:List (Nat×Nat×Nat)} {n:Nat} {Hs:Web} {r:Nat} {e:Nat×Nat} (h:HalfL L n Hs) (hr:r<n) (he:(r,e)∈L):∃i,en Hs r i=some e:=by
 have hrl:r<Hs.length:=by rw[h.len];exact hr
 have h1:Hs[r]? =some Hs[r]:=List.getElem?_eq_getElem hrl
 have:e∈Hs[r]:=(h.perm r _ h1).mem_iff.mpr (List.mem_map.mpr ⟨(r,e),List.mem_filter.mpr ⟨he,by simp⟩,rfl⟩)
 obtain⟨i,hi⟩:=List.getElem?_of_mem this
 exact⟨i,jU4 h1 hi⟩
theorem kV6 {xs:List (Nat×Nat)} {k:Nat} {y:Nat×Nat}:insT (xs.map encE) k (encE y)=(xs.take k++y::xs.drop k).map encE:=by simp[insT,List.map_take,List.map_drop]
theorem HalfL.len_le {L:List (Nat×Nat×Nat)} {n:Nat} {Hs:Web} {r:Nat} {hs:List (Nat×Nat)} (h:HalfL L n Hs) (hr:Hs[r]? =some hs):hs.length<=L.length:=by
 rw[(h.perm r hs hr).length_eq,List.length_map];exact List.length_filter_le _ _
theorem jK2 {xs:List T}:(numT xs).length=xs.length:=by simp[numT]
theorem jUa {n:Nat}:rngT 0 n=(List.range n).map fun (k:Nat)=>T.int k:=by simp[rngT]
theorem kXa {L:List (Nat×Nat×Nat)} {k:Nat}:(L.filter fun x=>decide (x.1<k+1)).length=(L.filter fun x=>decide (x.1<k)).length+(L.filter fun x=>x.1 == k).length:=by
 induction L with
 | nil=>rfl
 | cons a as ih=>
  rw[List.filter_cons,List.filter_cons,List.filter_cons]
  rcases Nat.lt_trichotomy a.1 k with h | h | h
  ·have h1:a.1<k+1:=by omega
   have h2:¬ a.1=k:=by omega
   simp[h,h1,h2,ih];omega
  ·have h1:a.1<k+1:=by omega
   simp[h,ih];omega
  ·have h1:¬ a.1<k+1:=by omega
   have h2:¬ a.1=k:=by omega
   have h3:¬ a.1<k:=by omega
   simp[h1,h2,h3,ih]
theorem kQk {L:List (Nat×Nat×Nat)} {d:Nat}:∀k,(∀r,r<k->d<=(L.filter fun x=>x.1 == r).length)->k*d<=(L.filter fun x=>decide (x.1<k)).length
 | 0,_=>by simp
 | k+1,h=>by
  rw[kXa,Nat.succ_mul]
  have h1:=kQk k fun r hr=>h r (by omega)
  have h2:=h k (by omega)
  omega
theorem kQ6 {es:List Nat}:(es.map fun e=>T.int (e:Nat)).all jUi=true:=by
 rw[List.all_map,List.all_eq_true];intros;rfl
theorem jXc {α:Type} {f:α->Bool}:∀ {es:List α},kJg (es.map fun e=>T.bl (f e))=some (es.all f)
 | []=>rfl
 | e::es=>by rw[List.map_cons,kJg,jXc,List.all_cons]
theorem en_lt {W:Web} {r i:Nat} {e:Nat×Nat} (h:en W r i=some e):r<W.length:=by
 obtain⟨es,h1,h2⟩:=jK4 h
 exact (List.getElem?_eq_some_iff.mp h1).1
structure Fine (W:Web):Prop where
 len:W.length<=1000
 row:∀(r:Nat) (es:List (Nat×Nat)),W[r]? =some es->es.length<=1000
 rng:∀r i s j,en W r i=some (s,j)->s<W.length
theorem jYp {W:Web} {r:Nat} {es:List (Nat×Nat)} (h:W[r]? =some es):L2.atI (W.map encR) (r:Int)=some (encR es):=by rw[atN];simp[h]
def leE (a b:Nat×Nat):Bool:=HT.lexLe [(a.1:Int),(a.2:Int)] [(b.1:Int),(b.2:Int)]
theorem kQt {a b:Nat×Nat}:leE a b=true↔(a.1<b.1\/(a.1=b.1/\a.2<=b.2)):=by
 unfold leE
 rw[HT.lexLe_cons,HT.lexLe_cons,HT.lexLe_nil]
 by_cases h1:a.1=b.1
 ·rw[if_pos (by omega)]
  by_cases h2:a.2=b.2
  ·rw[if_pos (by omega)];simp;omega
  ·rw[if_neg (by omega)];simp;omega
 ·rw[if_neg (by omega)];simp;omega
abbrev Tie:=(Nat×Nat)×(Nat×Nat)
def encT (x:Tie):T:= .tup [encE x.1,encE x.2]
def jQk (r:Nat) (es:List (Nat×Nat)) (i:Nat):Option Tie:=match es[i]? with
 | some e=>if leE (r,i) e=true then some ((r,i),e) else none
 | none=>none
def rowE (W:Web) (r:Nat):List Tie:=match W[r]? with
 | some es=>(List.range es.length).filterMap (jQk r es)
 | none=>[]
def jKq (W:Web):List Tie:=(List.range W.length).flatMap (rowE W)
theorem kKr {r i:Nat} {es:List (Nat×Nat)} {x:Tie} (h:jQk r es i=some x):x.1=(r,i)/\es[i]? =some x.2/\leE x.1 x.2=true:=by
 unfold jQk at h
 split at h
 ·rename_i e he
  split at h
  ·rename_i hl;cases h;exact⟨rfl,he,hl⟩
  ·cases h
 ·cases h
theorem endsL_mem {W:Web} {x:Tie}:x∈jKq W↔en W x.1.1 x.1.2=some x.2/\leE x.1 x.2=true:=by
 obtain⟨⟨r,i⟩,e⟩:=x
 unfold jKq
 rw[List.mem_flatMap]
 constructor
 ·rintro⟨r',h1,h2⟩
  unfold rowE at h2
  split at h2
  ·rename_i es hes
   rw[List.mem_filterMap] at h2
   obtain⟨i',h3,h4⟩:=h2
   obtain⟨q1,q2,q3⟩:=kKr h4
   cases q1
   exact⟨jU4 hes q2,q3⟩
  ·cases h2
 ·rintro⟨h1,h2⟩
  obtain⟨es,q1,q2⟩:=jK4 h1
  refine⟨r,List.mem_range.mpr (List.getElem?_eq_some_iff.mp q1).1,?_⟩
  unfold rowE
  rw[q1]
  show _∈List.filterMap _ _
  rw[List.mem_filterMap]
  refine⟨i,List.mem_range.mpr (List.getElem?_eq_some_iff.mp q2).1,?_⟩
  have q2:es[i]? =some e:=q2
  unfold jQk
  rw[q2]
  show (if leE (r,i) e=true then _ else _)=_
  rw[if_pos h2]
def jJt (F:List Nat):List T:=F.map fun e=>T.int (e:Nat)
theorem kV7 {F:List Nat} {r:Nat}:inT (.int r) (jJt F)=F.contains r:=by
 unfold inT jJt
 rw[List.any_map,List.contains_eq_any_beq]
 congr 1
 funext e
 simp only[Function.comp,eqT]
 by_cases h:e=r
 ·subst h;simp
 ·have h2:¬ (e:Int)=r:=by omega
  have h3:¬ r=e:=fun z=>h z.symm
  rw[beq_eq_false_iff_ne.mpr h3,beq_eq_false_iff_ne.mpr h2]
theorem kV8 {G:Gp} {p:Addr} {F:List Nat} {r:Nat} (h:G p=some (.lst (jJt F))):inR G (.int r) (.ref p)=some (F.contains r):=by
 unfold inR
 rw[jJm h]
 show (if _ then _ else _)=_
 rw[if_pos ⟨rfl,kQ6⟩,kV7]
theorem jUe:∀ {n:Nat} {F:List Nat} (hn:F.Nodup) (hl:∀x,x∈F->x<n),F.length<=n
 | 0,F,hn,hl=>by
  cases F with
  | nil=>exact Nat.le_refl _
  | cons a as=>exact absurd (hl a (List.mem_cons_self)) (Nat.not_lt_zero _)
 | n+1,F,hn,hl=>by
  have h1:=jUe (n:=n) (hn.erase n) (fun x hx=>by
   rw[hn.mem_erase_iff] at hx
   have:=hl x hx.2;omega)
  by_cases h:n∈F
  ·rw[List.length_erase_of_mem h] at h1;omega
  ·rw[List.erase_of_not_mem h] at h1;omega
def Closed (W:Web) (S:Nat->Prop):Prop:=∀r i s j,S r->en W r i=some (s,j)->S s
structure Found (W:Web) (r0:Nat) (F:List Nat):Prop where
 nd:F.Nodup
 lt:∀x,x∈F->x<W.length
 got:∀S,S r0->Closed W S->∀x,x∈F->S x
def vis (F:List Nat) (es:List (Nat×Nat)):List Nat:=es.foldl (fun F e=>if F.contains e.1=true then F else F++[e.1]) F
def row (W:Web) (r:Nat):List (Nat×Nat):=(W[r]?).getD []
theorem jU9 {W:Web} {r:Nat} {es:List (Nat×Nat)} (h:W[r]? =some es):row W r=es:=by unfold row;rw[h];rfl
theorem jVi {F:List Nat} {es:List (Nat×Nat)} {j:Nat} {e:Nat×Nat} (h:es[j]? =some e):vis F (es.take (j+1))=if (vis F (es.take j)).contains e.1=true then vis F (es.take j) else vis F (es.take j)++[e.1]:=by
 unfold vis
 rw[List.take_succ,h,List.foldl_append];rfl
def bfsN (W:Web):Nat->Nat->List Nat->List Nat
 | 0,_,F=>F
 | n+1,k,F=>match F[k]? with
  | some r=>bfsN W n (k+1) (vis F (row W r))
  | none=>F
def bfs (W:Web) (r:Nat):List Nat:=bfsN W W.length 0 [r]
theorem jZn {W:Web} {n k:Nat} {F:List Nat} (h:F.length<=k):bfsN W n k F=F:=by
 cases n with
 | zero=>rfl
 | succ n=>rw[bfsN,List.getElem?_eq_none h]
theorem jZm {W:Web} {n k r:Nat} {F:List Nat} (h:F[k]? =some r):bfsN W (n+1) k F=bfsN W n (k+1) (vis F (row W r)):=by rw[bfsN,h]
theorem kKz {W:Web} {t:Nat} {x:Tie} (h:(jKq W)[t]? =some x):en W x.1.1 x.1.2=some x.2/\leE x.1 x.2=true:=endsL_mem.mp (List.mem_of_getElem? h)
def cl (M:List (List T)) (x i:Nat):Option T:=(M[x]?).bind fun ts=>ts[i]?
def put (M:List (List T)) (x i:Nat) (v:T):List (List T):=match M[x]? with
 | some ts=>M.set x (ts.set i v)
 | none=>M
theorem jYo {G:Gp} {e f:Nat×Nat}:eqG G (encE e) (encE f)=some (decide (e=f)):=by
 obtain⟨a,b⟩:=e;obtain⟨c,d⟩:=f
 rw[show eqG G (encE (a,b)) (encE (c,d))=some (eqT (encE (a,b)) (encE (c,d))) from rfl]
 congr 1
 simp only[encE,eqT,eqTs,Bool.and_true]
 by_cases h1:a=c
 ·by_cases h2:b=d
  ·simp[h1,h2]
  ·have:¬ (b:Int)=d:=by omega
   simp[h1,h2,this]
 ·have:¬ (a:Int)=c:=by omega
  simp[h1,this]
theorem jZ7 {G:Gp} {a c:Nat}:eqG G (.int a) (.int c)=some (decide (a=c)):=by
 rw[show eqG G (.int a) (.int c)=some (eqT (.int a) (.int c)) from rfl]
 congr 1
 simp only[eqT]
 by_cases h1:a=c
 ·simp[h1]
 ·have:¬ (a:Int)=c:=by omega
  simp[h1,this]
theorem kUj {mask:List Bool} {g:TG3} {tif:TT3} {te:TE3} {τ:St3} {xs:List T} {stay:Gp->Prop} {G:Gp} {Q:VK3} (Pr:T->Prop) (hz:xs.length<=sizeLine) (hst:∀G',Sub G G'->stay G')
  (h:∀(i:Nat) x,xs[i]? =some x->∀G' (K:T->Gp->Prop) (K0:Gp->Prop),Sub G G'->(∀t G4,Pr t->Sub G' G4->K t G4)->g x (msk mask τ) G' fun τ2 G2=>tif τ2 G2 fun b G3=>if b=true then te τ2 G3 K else K0 G3)
  (hq:∀D ts G',G D=none->G' D=some (.lst ts)->ts.length=xs.length->(∀t,t∈ts->Pr t)->Sub G G'->Q (.ref D) G'):jXz mask g tif te τ xs stay G Q:=by
 intro D hD
 refine⟨fun i acc G'=>acc.length=i/\(∀t,t∈acc->Pr t)/\Sub G G'/\G' D=some (.lst acc),?_,?_,?_,?_⟩
 ·exact⟨rfl,fun t z=>by simp at z,.new hD,jJg⟩
 ·rintro i acc G' hi ⟨j1,j2,j4,j5⟩
  exact⟨hst G' j4,j5⟩
 ·rintro i x acc G3 hx ⟨j1,j2,j4,j5⟩
  have hi:i<xs.length:=(List.getElem?_eq_some_iff.mp hx).1
  refine h i x hx G3 _ _ j4 fun t G4 hp kp=> ?_
  refine⟨kp _ _ j5,by omega,by simp[j1],?_,(j4.trans kp).over hD,jJg⟩
  intro u hu
  rcases (List.mem_append.mp hu) with hu | hu
  ·exact j2 u hu
  ·rw[List.mem_singleton.mp hu];exact hp
 ·rintro acc G3 ⟨j1,j2,j4,j5⟩
  exact hq D acc G3 hD j5 j1 j2 j4
theorem kQ1:∀(us:List T),(∀t,t∈us->∃x:Int,t= .int x)->∃ts:List Int,us=jKz ts
 | [],_=>⟨[],rfl⟩
 | u::us,h=>by
  obtain⟨x,rfl⟩:=h u (by simp)
  obtain⟨ts,rfl⟩:=kQ1 us fun t ht=>h t (List.mem_cons_of_mem _ ht)
  exact⟨x::ts,rfl⟩
abbrev RdOk (sp:Sp3) (rd:TS3) (N:List Str):Prop:=∀xs G Q,sp xs G Q->rd {nx:=fun _ G'=>Q .non G',rt:=Q} (jKu N xs) G
noncomputable def jJo:Sp3:=fun xs G Q=>∃(b:Addr) (m:Int) (n:Nat),xs=[.ref b,.int m]/\BoxAt G b n/\n<2^40/\1<=m/\m<2^29/\∀(r:Int) G',0<=r->r<m->BoxAt G' b (n+1)->Keep b G G'->Q (.int r) G'
def kXl:List Str:=["_law_box_here","_law_many","_law_found","_law_once"]
noncomputable def jV2:TS3:=
 (tSeq (tIfS (jJx (tOp rGt (tOp rIxF (tVar 0) (tC (.int 0))) (tC (.int 0)))) (tSeq (tAsg (tOp rMod (tOp rIxF (tVar 0) (tC (.int 0))) (tVar 1)) (jJd 2))
 (tSeq (tAsg (tOp kYi (tOp rIxF (tVar 0) (tC (.int 0))) (tVar 1)) (gSub (tVar 0) (tC (.int 0)) jK8))
 (tRet (tVar 2)))) jJ6)
 (tSeq (tAsg (tOp jJ4 (tOp rIxF (tVar 0) (tC (.int 2))) (tC (.int 1))) (gSub (tVar 0) (tC (.int 2)) jK8))
 (tSeq (tAsg (tOp rMod (tOp jYf (tOp jJ4 (tOp rIxF (tVar 0) (tC (.int 1))) (tOp jYf (tC (.int 39373)) (tOp rIxF (tVar 0) (tC (.int 2))))) (tOp jJ4 (tC (.int 48271)) (tOp rIxF (tVar 0) (tC (.int 2))))) (tC (.int 2147483647))) (jJd 3))
 (tSeq (tAsg (tOp rMod (tOp jJ4 (tOp jYf (tVar 3) (tOp jJ4 (tOp rMod (tVar 3) (tC (.int 40009))) (tC (.int 7)))) (tOp rIxF (tVar 0) (tC (.int 2)))) (tC (.int 2147483629))) (gSub (tVar 0) (tC (.int 1)) jK8))
 (tRet (tOp rMod (tOp kYi (tOp rMod (tOp jYf (tOp rIxF (tVar 0) (tC (.int 1))) (tOp jJ4 (tOp rMod (tOp rIxF (tVar 0) (tC (.int 1))) (tC (.int 1009))) (tC (.int 3)))) (tC (.int 998244353))) (tC (.int 7))) (tVar 1)))))))
theorem jZz:RdOk jJo jV2 kXl:=by
 intro xs G Q h_;apply xe3 h_;clear h_;intro b m n h_;apply ae5 h_;clear h_;intro q0_ hn hm1 hm2 k
 obtain⟨x,y,z,hb,hx,hy0,hy1,hz0,hz1⟩:=q0_
 show jV2 _ [some (.ref b),some (.int m),none,none] G
 wp_walk using 1,jV2,jJ9 hb,kXp hb
 have box:∀x' y' z':Int,0<=x'->0<=y'->y'<2147483648->0<=z'->z'<=n+1->BoxAt (gup G b (.lst [.int x',.int y',.int z'])) b (n+1):=fun x' y' z' h1 h2 h3 h4 h5=>⟨x',y',z',jJg,h1,h2,h3,h4,by omega⟩
 split
 ·exact⟨by omega,⟨by omega,by omega⟩,k _ _ (Int.emod_nonneg _ (by omega)) (Int.emod_lt_of_pos _ (by omega)) (box _ _ _ (Int.ediv_nonneg hx (by omega)) hy0 hy1 hz0 (by omega)) .gup⟩
 ·have a0:=Int.emod_nonneg ((y+39373*(z+1))*(48271+(z+1))) (b:=2147483647) (by decide)
  have a1:=Int.emod_lt_of_pos ((y+39373*(z+1))*(48271+(z+1))) (b:=2147483647) (by decide)
  refine⟨.inl (by decide),.inr ⟨by omega,by omega⟩,by decide,by decide,?_⟩
  generalize (y+39373*(z+1))*(48271+(z+1))%2147483647=u at a0 a1 ⊢
  have b0:=Int.emod_nonneg (u*(u%40009+7)+(z+1)) (b:=2147483629) (by decide)
  have b1:=Int.emod_lt_of_pos (u*(u%40009+7)+(z+1)) (b:=2147483629) (by decide)
  refine⟨.inl ⟨by omega,by omega⟩,by decide,by decide,?_⟩
  generalize (u*(u%40009+7)+(z+1))%2147483629=v at b0 b1 ⊢
  refine⟨.inl ⟨by omega,by omega⟩,by decide,⟨by decide,by decide⟩,by omega,?_⟩
  exact k _ _ (Int.emod_nonneg _ (by omega)) (Int.emod_lt_of_pos _ (by omega)) (box _ _ _ hx b0 (by omega) (by omega) (by omega)) .gup
def absZ (v:Int):Int:=if v<0 then -v else v
def boxT (v k:Int):List T:=[.int (if 10^18<=absZ v then absZ v else 0),.int ((v%2147483647+7919*k+11)*48271%2147483629),.int 0]
theorem kZr {G:Gp} {b:Addr} {v k:Int} (h:G b=some (.lst (boxT v k))):BoxAt G b 0:=by
 refine⟨_,_,_,h,by unfold absZ;split<;>split<;>omega,Int.emod_nonneg _ (by decide),?_,Int.le_refl _,by simp⟩
 have:=Int.emod_lt_of_pos ((v%2147483647+7919*k+11)*48271) (b:=2147483629) (by decide)
 omega
noncomputable def jX6:Sp3:=fun xs G Q=>∃(c:Addr) (ns:List Int) (k:Nat) (v:Int),xs=[.ref c,.int k]/\G c=some (.lst (jKz ns))/\ns[k]? =some v/\ns.length<=63/\∀p G',G p=none->G' p=some (.lst (boxT v k))->Sub G G'->Q (.ref p) G'
def kZv:List Str:=["_law_script","_law_k","_law_cell","_law_digits"]
noncomputable def jYe:TS3:=
 (tSeq (tAsg (tC (.int 0)) (jJd 2))
 (tSeq (tIfS (jJx (tOp rLt (tVar 1) (tCB rLen (jJb (tVar 0) tNil)))) (tAsg (tOp rIxF (tVar 0) (tVar 1)) (jJd 2)) jJ6)
 (tSeq (tAsg (tC (.int 0)) (jJd 3))
 (tSeq (tIfS (jJx (tOp rGe (tCB rAbs (jJb (tVar 2) tNil)) (tOp rPow (tC (.int 10)) (tC (.int 18))))) (tAsg (tCB rAbs (jJb (tVar 2) tNil)) (jJd 3)) jJ6)
 (tRet (tLst (jJb (tVar 3) (jJb (tOp rMod (tOp jYf (tOp jJ4 (tOp jJ4 (tOp rMod (tVar 2) (tC (.int 2147483647))) (tOp jYf (tC (.int 7919)) (tVar 1))) (tC (.int 11))) (tC (.int 48271))) (tC (.int 2147483629))) (jJb (tC (.int 0)) tNil)))))))))
theorem kKd:RdOk jX6 jYe kZv:=by
 intro xs G Q h_;apply xe4 h_;clear h_;intro c ns k v h_;apply ae4 h_;clear h_;intro hc hv hl kk
 show jYe _ [some (.ref c),some (.int k),none,none] G
 have hs:=sz
 have hk:k<ns.length:=(List.getElem?_eq_some_iff.mp hv).1
 have hat:L2.atI (jKz ns) (k:Int)=some (.int v):=by rw[atN,List.getElem?_map,hv];rfl
 wp_walk using 1,jYe,jJm hc,List.length_map,jJ9 hc,hat
 rw[if_pos (by omega)]
 refine⟨⟨by decide,by decide,by decide⟩,?_⟩
 have fin:∀x,x=(if 10^18<=absZ v then absZ v else 0)->0<(2147483647:Int)/\L2.CMul 7919 k/\L2.CMul (v%2147483647+7919*k+11) 48271/\0<(2147483629:Int)/\3<=sizeLine/\∀p,G p=none->Q (.ref p) (gup G p (.lst [.int x,.int ((v%2147483647+7919*k+11)*48271%2147483629),.int 0])):=by
  rintro x rfl
  exact⟨by decide,.inl (by decide),.inr (by decide),by decide,by omega,fun p hp=>kk p _ hp jJg (.new hp)⟩
 by_cases h:10^18<=absZ v
 ·rw[if_pos (show (10:Int)^Int.toNat 18<=(if v<0 then -v else v) from h)]
  exact fin _ (by rw[if_pos h];rfl)
 ·rw[if_neg (show ¬ (10:Int)^Int.toNat 18<=(if v<0 then -v else v) from h)]
  exact fin _ (by rw[if_neg h])
noncomputable def jUs:Sp3:=fun xs G Q=>∃ns:List Int,xs=[.scr (jKz ns),.int 12]/\ns.length<=63/\∀D rs G',G D=none->G' D=some (.lst (rs.map T.ref))->rs.length<=12->(D::rs).Nodup->(∀r,r∈rs->BoxAt G' r 0)->Sub G G'->Q (.ref D) G'
def kUu:List Str:=["_law_script","_law_most","_law_cells","_law_k"]
noncomputable def jUv:TS3:=
 (tSeq (tAsg (jKh [false,false,false,true] (jKe (jJb (tCB rMax (jJb (tC (.int 1)) (jJb (tCB kYh (jJb (tVar 1) (jJb (tCB rLen (jJb (tVar 0) tNil)) tNil))) tNil))) tNil)) (jJd 3) jK6 (tCB rSum (jJb (kU5 (tVar 0) (jVx (tVar 3)) (jVx (tC (.int 63))) (jVx (tVar 1))) tNil))) (jJd 2))
 (tRet (jKh [false,false,false,true] (jKe (jJb (tCB rLen (jJb (tVar 2) tNil)) tNil)) (jJd 3) jK6 (jJz jX6 (jJb (tVar 2) (jJb (tVar 3) tNil))))))
theorem jYz:RdOk jUs jUv kUu:=by
 intro xs G Q h_;apply xe1 h_;clear h_;intro ns h_;apply ae2 h_;clear h_;intro hl kk
 show jUv _ [some (.scr (jKz ns)),some (.int 12),none,none] G
 have hs:=sz
 wp_walk using 1,jUv,kYh,rSum,kU5,jVx,jKe
 refine⟨jKz ns,rfl,?_⟩
 obtain⟨N,hN,hN2⟩:∃N:Nat,(if (if ((jKz ns).length:Int)<12 then ((jKz ns).length:Int) else 12)>1 then if ((jKz ns).length:Int)<12 then ((jKz ns).length:Int) else 12 else 1)=(N:Int)/\N<=12:=by
  refine⟨(if (if ((jKz ns).length:Int)<12 then ((jKz ns).length:Int) else 12)>1 then if ((jKz ns).length:Int)<12 then ((jKz ns).length:Int) else 12 else 1).toNat,?_,?_⟩<;>split<;>split<;>omega
 rw[hN]
 refine⟨by omega,by omega,?_⟩
 refine kUj (fun t=>∃x:Int,t= .int x) (by rw[jVm];omega) (fun _ _=>trivial) ?_ ?_
 ·intro i x hx G' K K0 s hk
  obtain⟨hi,rfl⟩:=jVn hx
  wp_walk using 1,rSum,kU5,jVx
  refine⟨by simp,jKz ns,rfl,fun is p hp=>⟨is.filterMap (ns[·]?),?_,fun z=>hk _ _ ⟨z,rfl⟩ (.new hp)⟩⟩
  rw[List.map_filterMap]
  congr 1;funext j;rw[List.getElem?_map]
 ·intro D ts G1 hD hD1 hlen hts s1
  obtain⟨ms,rfl⟩:=kQ1 ts hts
  rw[jVm] at hlen
  have hml:ms.length=N:=by simpa using hlen
  refine⟨jKz ms,jJm hD1,by omega,by omega,?_⟩
  rw[show (((jKz ms).length:Nat):Int).toNat=N by simp[hml],jUa]
  refine jXw (fun k:Nat=>boxT (ms.getD k 0) k) (by simp;omega) (fun _ _=>trivial) ?_ ?_
  ·intro i k hk G' K K0 s hK
   obtain⟨q1,q2⟩:=List.getElem?_eq_some_iff.mp hk
   simp at q1 q2;subst q2
   wp_walk using 1,tSeq
   refine⟨D,ms,i,ms.getD i 0,rfl,s _ _ hD1,?_,by omega,fun p G4 hp h4 s4=>hK p G4 hp h4 s4⟩
   rw[List.getElem?_eq_getElem (by omega),List.getD,List.getElem?_eq_getElem (by omega)];rfl
  ·intro E rs G2 hE hE2 s2 hrl hnd hrs
   rw[List.length_range] at hrl
   refine kk E rs G2 (s1.none hE) hE2 (by omega) hnd (fun r hr=> ?_) (s1.trans s2)
   obtain⟨j,hj⟩:=List.getElem?_of_mem hr
   have hjl:j<rs.length:=(List.getElem?_eq_some_iff.mp hj).1
   exact kZr (hrs j r j hj (by rw[List.getElem?_range (by omega)])).2
structure OkD (d:Nat) (x:T):Prop where
 tr:tree x=true
 lay:(td x).canLay0=true
 dep:(td x).depth<=d
 eq:eqT x x=true
theorem okD_int {i:Int}:OkD 0 (.int i):=⟨rfl,rfl,Nat.le_of_eq (by simp[td,PyData.depth]),by simp[eqT]⟩
theorem kQn {d:Nat}:∀xs:List T,(∀x,x∈xs->OkD d x)->jKj xs=true/\PyData.canLayAll0 (tds xs)=true/\PyData.depthAll (tds xs)<=d/\eqTs xs xs=true
 | [],_=>⟨rfl,by simp[tds,PyData.canLayAll0],by simp[tds,PyData.depthAll],rfl⟩
 | x::xs,h=>by
  obtain⟨a1,a2,a3,a4⟩:=kQn xs fun y hy=>h y (List.mem_cons_of_mem _ hy)
  obtain⟨b1,b2,b3,b4⟩:=h x (List.mem_cons_self ..)
  refine⟨?_,?_,?_,?_⟩
  ·show (tree x&&jKj xs)=true;rw[a1,b1];rfl
  ·rw[tds,PyData.canLayAll0,a2,b2];rfl
  ·rw[tds,PyData.depthAll];omega
  ·show (eqT x x&&eqTs xs xs)=true;rw[a4,b4];rfl
theorem OkD.mono {d d':Nat} {x:T} (h:OkD d x) (l:d<=d'):OkD d' x:=⟨h.tr,h.lay,Nat.le_trans h.dep l,h.eq⟩
theorem kYq {xs:List T} (h:∀x,x∈xs->OkD 40 x):jXn xs=true:=by
 obtain⟨a1,a2,a3,_⟩:=kQn xs h
 unfold jXn
 rw[a1,a2,decide_eq_true (show (PyData.list (tds xs)).depth<=50 by rw[PyData.depth];omega)];rfl
theorem jZc:∀ {a b:List Nat},eqTs (jJt a) (jJt b)=decide (a=b)
 | [],[]=>rfl
 | [],_::_=>by simp[jJt,eqTs]
 | _::_,[]=>by simp[jJt,eqTs]
 | x::a,y::b=>by
  show (eqT (.int x) (.int y)&&eqTs (jJt a) (jJt b))=_
  rw[jZc]
  have:eqT (.int (x:Nat)) (.int (y:Nat))=decide (x=y):=by
   by_cases h:x=y
   ·subst h;simp[eqT]
   ·have h2:¬ (x:Int)=y:=by omega
    rw[decide_eq_false h];simpa[eqT] using h2
  rw[this];simp
theorem kUb {G:Gp} {p q:Addr} {a b:List Nat} (h1:G p=some (.lst (jJt a))) (h2:G q=some (.lst (jJt b))):eqG G (.ref p) (.ref q)=some (decide (a=b)):=by
 have ok:∀F:List Nat,jXn (jJt F)=true:=fun F=>kYq fun x hx=>by
  obtain⟨σ,_,rfl⟩:=List.mem_map.mp hx;exact okD_int.mono (by decide)
 have:eqG G (.ref p) (.ref q)=if jXn (jJt a)=true/\jXn (jJt b)=true then some (eqTs (jJt a) (jJt b)) else none:=by simp only[eqG,h1,h2]
 rw[this,if_pos ⟨ok a,ok b⟩,jZc]
theorem eqG_z {G:Gp} {a c:Int}:eqG G (.int a) (.int c)=some (decide (a=c)):=by
 rw[show eqG G (.int a) (.int c)=some (eqT (.int a) (.int c)) from rfl]
 congr 1
theorem jZs {kvs:List (L2.Key×T)} {k:L2.Key}:(valT kvs k).isSome=true↔k∈kvs.map Prod.fst:=by
 unfold valT
 rw[Option.isSome_map,List.find?_isSome,List.mem_map]
 exact⟨fun ⟨a,h1,h2⟩=>⟨a,h1,by simpa using h2⟩,fun ⟨a,h1,h2⟩=>⟨a,h1,by simpa using h2⟩⟩
def keyN (x:Nat):L2.Key:= .inl (x:Nat)
theorem kJw {F:List Nat} {x:Nat}:keyN x∈F.map keyN↔x∈F:=by
 rw[List.mem_map]
 refine⟨fun ⟨a,ha,e⟩=> ?_,fun h=>⟨x,h,rfl⟩⟩
 have e1:(Sum.inl (a:Int):L2.Key)=Sum.inl (x:Int):=e
 have:(a:Int)=x:=by injection e1
 have:a=x:=by omega
 exact this▸ha
theorem kZa {G:Gp} {d:Addr} {kvs:List (L2.Key×T)} {F:List Nat} {x:Nat} (h:G d=some (.dck kvs)) (hk:kvs.map Prod.fst=F.map keyN):inR G (.int (x:Nat)) (.ref d)=some (decide (x∈F)):=by
 have e1:seqT G (.ref d)=none:=by simp only[seqT,h];rfl
 have e2:dAt G (.ref d) (.int (x:Nat))=some (valT kvs (keyN x)):=by simp only[dAt,h,jU0];rfl
 unfold inR
 simp only[e1,e2]
 congr 1
 rw[Bool.eq_iff_iff,jZs,hk,kJw];simp
theorem kVm {kvs:List (L2.Key×T)} {k:L2.Key} {v:T} (h:k∉kvs.map Prod.fst):putT kvs k v=kvs++[(k,v)]:=by
 unfold putT
 rw[if_neg]
 rw[List.any_eq_true]
 rintro⟨a,ha,e⟩
 exact h (List.mem_map.mpr ⟨a,ha,by simpa using e⟩)
theorem kVb {G:Gp} {d:Addr} {kvs:List (L2.Key×T)} {x:Nat} {v:T} (h:G d=some (.dck kvs)) (hz:kvs.length<sizeLine):setR G (.ref d) (.int (x:Nat)) v=some (gup G d (.dck (putT kvs (keyN x) v))):=by
 simp only[setR,h,jU0]
 rw[if_pos hz];rfl
theorem jQu {xs:List T} {j:Nat} {y:T} (h:(numT xs)[j]? =some y):∃x,xs[j]? =some x/\y= .tup [.int j,x]:=by
 have hj:j<xs.length:=by have:=(List.getElem?_eq_some_iff.mp h).1;rwa [jKd] at this
 refine⟨xs[j],List.getElem?_eq_getElem hj,?_⟩
 rw[jYh (List.getElem?_eq_getElem hj)] at h
 cases h;rfl
theorem kU8 {G G':Gp} (h:Sub G G') {p:Addr} (hp:G' p=none):G p=none:=by
 cases e:G p with
 | none=>rfl
 | some o=>rw[h _ _ e] at hp;cases hp
structure WI (n k:Nat) (L:List (Nat×Nat×Nat)) (kvs:List (L2.Key×T)):Prop where
 rm:∀x,x∈L->x.1<n/\x.2.2<=1/\x.2.1<k
 ld:∀x,x∈L->∃lp:Bool,valT kvs (.inl (x.2.1:Nat))=some (.bl lp)/\(lp=true->x.2.2=0)/\(lp=false->∃r,(r,x.2.1,1-x.2.2)∈L)
 ln:L.length<=2*k
 tr:k<n->∀x,x∈L->x.1<=k
 kl:kvs.length<=k
 nd:(L.map fun x=>x.2).Nodup
 two:∀j,j<k->j<2->∃r,(r,j,0)∈L
theorem WI.skip {n k:Nat} {L:List (Nat×Nat×Nat)} {kvs:List (L2.Key×T)} (h:WI n k L kvs) (hk:n<=k+1) (hk2:2<=k):WI n (k+1) L kvs:=
 ⟨fun x hx=>by have:=h.rm x hx;omega,h.ld,by have:=h.ln;omega,fun z=>by omega,by have:=h.kl;omega,h.nd,fun j _ h2=>h.two j (by omega) h2⟩
theorem WI.step {n k r1 r2:Nat} {lp:Bool} {L:List (Nat×Nat×Nat)} {kvs:List (L2.Key×T)} (h:WI n k L kvs) (h1:r1<n) (h2:r2<n) (ht:k+1<n->r1<=k+1/\r2<=k+1):
  WI n (k+1) ((L++[(r1,k,0)])++if lp=true then [] else [(r2,k,1)]) (putT kvs (.inl (k:Nat)) (.bl lp)):=by
 have mem:∀x,x∈(L++[(r1,k,0)])++(if lp=true then [] else [(r2,k,1)])->x∈L\/x=(r1,k,0)\/(lp=false/\x=(r2,k,1)):=by
  intro x hx
  rcases (List.mem_append.mp hx) with hx | hx
  ·rcases (List.mem_append.mp hx) with hx | hx
   ·exact .inl hx
   ·exact .inr (.inl (List.mem_singleton.mp hx))
  ·cases lp with
   | true=>simp at hx
   | false=>exact .inr (.inr ⟨rfl,by simpa using hx⟩)
 have hv:valT (putT kvs (.inl (k:Nat)) (.bl lp)) (.inl ((k:Nat):Int))=some (.bl lp):=by rw[jQw,if_pos rfl]
 refine⟨fun x hx=> ?_,fun x hx=> ?_,?_,fun hk x hx=> ?_,?_,?_,fun j h1 h2=> ?_⟩
 ·rcases mem x hx with hx | rfl | ⟨_,rfl⟩
  ·have:=h.rm x hx;omega
  ·exact⟨h1,Nat.zero_le _,Nat.lt_succ_self k⟩
  ·exact⟨h2,Nat.le_refl _,Nat.lt_succ_self k⟩
 ·rcases mem x hx with hx | rfl | ⟨hl,rfl⟩
  ·obtain⟨lp',a1,a2,a3⟩:=h.ld x hx
   have hxk:=(h.rm x hx).2.2
   refine⟨lp',?_,a2,fun z=> ?_⟩
   ·rw[jQw,if_neg];exact a1
    intro e
    have:(k:Int)=(x.2.1:Nat):=Sum.inl.inj e
    omega
   ·obtain⟨r,hr⟩:=a3 z
    exact⟨r,List.mem_append_left _ (List.mem_append_left _ hr)⟩
  ·refine⟨lp,hv,fun _=>rfl,fun z=>⟨r2,?_⟩⟩
   subst z;simp
  ·refine⟨lp,hv,fun z=> ?_,fun z=>⟨r1,by simp⟩⟩
   rw[hl] at z;cases z
 ·have:=h.ln
  cases lp<;>simp<;>omega
 ·have ht:=ht hk
  rcases mem x hx with hx | rfl | ⟨_,rfl⟩
  ·have:=h.tr (by omega) x hx;omega
  ·exact ht.1
  ·exact ht.2
 ·have:=h.kl;have:=jUc kvs (.inl (k:Nat)) (.bl lp);omega
 ·have lt:∀y,y∈L.map (fun x:Nat×Nat×Nat=>x.2)->y.1<k:=fun y hy=>by
   obtain⟨x,hx,rfl⟩:=List.mem_map.mp hy;exact (h.rm x hx).2.2
  have n1:((L++[(r1,k,0)]).map fun x:Nat×Nat×Nat=>x.2).Nodup:=by
   rw[List.map_append]
   refine List.nodup_append.mpr ⟨h.nd,by simp,fun a ha b hb e=> ?_⟩
   have:=lt a ha
   rw[e,show b=(k,0) by simpa using hb] at this;exact Nat.lt_irrefl _ this
  cases lp with
  | true=>simpa using n1
  | false=>
   rw[if_neg (by decide),List.map_append]
   refine List.nodup_append.mpr ⟨n1,by simp,fun a ha b hb e=> ?_⟩
   have eb:b=(k,1):=by simpa using hb
   rw[List.map_append] at ha
   rcases (List.mem_append.mp ha) with ha | ha
   ·have:=lt a ha;rw[e,eb] at this;exact Nat.lt_irrefl _ this
   ·have ea:a=(k,0):=by simpa using ha
    rw[ea,eb] at e;simp at e
 ·by_cases z:j=k
  ·subst z;exact⟨r1,List.mem_append_left _ (List.mem_append_right _ (by simp))⟩
  ·obtain⟨r,hr⟩:=h.two j (by omega) h2
   exact⟨r,List.mem_append_left _ (List.mem_append_left _ hr)⟩
theorem HalfL.row_len {L:List (Nat×Nat×Nat)} {n r:Nat} {Hs:Web} (h:HalfL L n Hs) (hr:r<n):(row Hs r).length=(L.filter fun x=>x.1 == r).length:=by
 have hrl:r<Hs.length:=by rw[h.len];exact hr
 have h1:Hs[r]? =some Hs[r]:=List.getElem?_eq_getElem hrl
 rw[jU9 h1,(h.perm r _ h1).length_eq,List.length_map]
theorem WI.free {n k:Nat} {L:List (Nat×Nat×Nat)} {kvs:List (L2.Key×T)} {Hs:Web} (h:WI n k L kvs) (hh:HalfL L n Hs) (hk:k<n):∃r,r<k+1/\(row Hs r).length<5:=by
 refine (Classical.byContradiction) fun hn=> ?_
 have:=kQk (L:=L) (d:=5) (k+1) fun r hr=>by
  rw[<-hh.row_len (by omega)]
  exact Nat.le_of_not_lt fun z=>hn ⟨r,hr,z⟩
 have h2:=List.length_filter_le (fun x:Nat×Nat×Nat=>decide (x.1<k+1)) L
 have:=h.ln
 omega
theorem RowsAt.get {G:Gp} {h:Addr} {Hs:Web} {rs:List Addr} {x:Nat} (R:RowsAt G h Hs rs) (hx:x<Hs.length):∃a,rs[x]? =some a/\L2.atI (rs.map T.ref) (x:Int)=some (.ref a)/\G a=some (.lst ((row Hs x).map encE)):=by
 have hxl:x<rs.length:=by rw[R.2.1];exact hx
 have hr:rs[x]? =some rs[x]:=List.getElem?_eq_getElem hxl
 obtain⟨us,h1,h2⟩:=R.2.2 x _ hr
 exact⟨_,hr,by rw[atN,List.getElem?_map,hr];rfl,by rw[jU9 h1];exact h2⟩
noncomputable def InsP (b D:Addr) (r k:Nat) (s:Int) (G:Gp) (K:Gp->Prop):Prop:=∃t,ixR G (.ref D) (.int (r:Nat))=some t/\tyT G "list" t/\∃t1,ixR G (.ref D) (.int (r:Nat))=some t1/\∃x,seqT G t1=some x/\jJo [.ref b,.int ((x.length:Int)+1)] G fun x G1=>2<=sizeLine/\∃p,t= .ref p/\∃x1 x2,x= .int x2/\G1 p=some (.lst x1)/\0<=x2/\x2<=(x1.length:Int)/\x1.length<sizeLine/\K (gup G1 p (.lst (insT x1 x2.toNat (.tup [.int (k:Nat),.int s]))))
theorem kXw {b D:Addr} {rs:List Addr} {n r k s c:Nat} {si:Int} {L:List (Nat×Nat×Nat)} {Hs:Web} {G:Gp} {K:Gp->Prop} (hsi:si=(s:Nat)) (hr:r<n) (hh:HalfL L n Hs) (hl:L.length<=100) (hR:RowsAt G D Hs rs) (hnd:(D::rs).Nodup) (hbD:b∉D::rs) (hb:BoxAt G b c) (hc:c<2^40)
  (kk:∀Hs' G',HalfL (L++[(r,k,s)]) n Hs'->RowsAt G' D Hs' rs->BoxAt G' b (c+1)->(∀a o,a≠b->a∉D::rs->G a=some o->G' a=some o)->K G'):InsP b D r k si G K:=by
 have hs:=sz
 have hrl:r<Hs.length:=by rw[hh.len];exact hr
 obtain⟨a,a1,a2,a3⟩:=hR.get hrl
 have hrow:Hs[r]? =some (row Hs r):=by rw[row,List.getElem?_eq_getElem hrl];rfl
 have hlen:=hh.len_le hrow
 have ham:a∈D::rs:=List.mem_cons_of_mem _ (List.mem_of_getElem? a1)
 have hab:a≠b:=fun e=>hbD (e▸ham)
 have hix:ixR G (.ref D) (.int (r:Nat))=some (.ref a):=(jJ9 hR.1).trans a2
 refine⟨_,hix,by rw[jUn a3];trivial,_,hix,_,jJm a3,b,_,c,rfl,hb,hc,by omega,by rw[List.length_map];omega,fun x G1 x0 x1 bx kp=>⟨by omega,a,rfl,_,x,rfl,kp _ _ hab a3,x0,by omega,by rw[List.length_map];omega,?_⟩⟩
 rw[hsi,show T.tup [T.int (k:Nat),.int (s:Nat)]=encE (k,s) from rfl,kV6]
 refine kk _ _ (hh.ins hrow) ((hR.keep kp hbD).set hnd a1) (bx.gup hab.symm) fun a' o h1 h2 h3=> ?_
 rw[jJp fun e=>h2 (by rw[e];exact ham)];exact kp _ _ h1 h3
theorem kK4 {G:Gp} {p:Addr} {kvs:List (L2.Key×T)} {k:Int} {v:T} (h:G p=some (.dck kvs)) (hz:kvs.length<sizeLine):setR G (.ref p) (.int k) v=some (gup G p (.dck (putT kvs (.inl k) v))):=by
 simp only[setR,h,jU0];rw[if_pos hz]
noncomputable def kZu:List Str:=["_law_box_here","_law_size","_law_more","_law_sides","_law_leads","_law_k","_law_free","_law_one","_law_other","_law_ahead","_law_loop","_law_where","_law_room","_law_door","_law_side","_law_ends"]
noncomputable def jYd:TS3:=
 (tSeq (tAsg (jKh [false,false,false,false,false,false,false,false,false,false,false,false,true,false,false,false] (jKe (jJb (tVar 1) tNil)) (jJd 12) jK6 (tLst tNil)) (jJd 3))
 (tSeq (tAsg jKt (jJd 4))
 (tSeq (tFor (jKe (jJb (tOp jJ4 (tOp rSub (tVar 1) (tC (.int 1))) (tVar 2)) tNil)) (jJd 5) (tSeq (tAsg (jKh [false,false,false,false,false,false,false,false,false,false,false,false,true,false,false,false] (jKe (jJb (tVar 1) tNil)) (jJd 12) (jJx (tOp rLt (tCB rLen (jJb (tOp rIxF (tVar 3) (tVar 12)) tNil)) (tC (.int 5)))) (tVar 12)) (jJd 6))
 (tSeq (tIfS (jJx (tOp rEqA (tVar 6) (tLst tNil))) kU6 jJ6)
 (tSeq (tAsg (tOp rIxF (tVar 6) (jJz jJo (jJb (tVar 0) (jJb (tCB rLen (jJb (tVar 6) tNil)) tNil)))) (jJd 7))
 (tSeq (tAsg (tOp rIxF (tVar 6) (jJz jJo (jJb (tVar 0) (jJb (tCB rLen (jJb (tVar 6) tNil)) tNil)))) (jJd 8))
 (tSeq (tIfS (jJx (tOp rLt (tVar 5) (tOp rSub (tVar 1) (tC (.int 1))))) (tSeq (tAsg (tOp jJ4 (tVar 5) (tC (.int 1))) (jJd 8))
 (tSeq (tAsg (jKh [false,false,false,false,false,false,false,false,false,false,false,false,true,false,false,false] (iSeq (tVar 6)) (jJd 12) (jJx (tOp rLeF (tVar 12) (tVar 5))) (tVar 12)) (jJd 9))
 (tAsg (tOp rIxF (tVar 9) (jJz jJo (jJb (tVar 0) (jJb (tCB rLen (jJb (tVar 9) tNil)) tNil)))) (jJd 7)))) jJ6)
 (tSeq (tAsg (jVz (tOp rGe (tVar 5) (tOp rSub (tVar 1) (tC (.int 1)))) (tOp rEqA (jJz jJo (jJb (tVar 0) (jJb (tC (.int 4)) tNil))) (tC (.int 0)))) (jJd 10))
 (tSeq (tAsg (tVar 10) (gSub (tVar 4) (tVar 5) jK8))
 (tSeq (jUq (tBM "list" jUy (tOp rIxF (tVar 3) (tVar 7)) (jJb (jJz jJo (jJb (tVar 0) (jJb (tOp jJ4 (tCB rLen (jJb (tOp rIxF (tVar 3) (tVar 7)) tNil)) (tC (.int 1))) tNil))) (jJb (tTup (jJb (tVar 5) (jJb (tC (.int 0)) tNil))) tNil))))
 (tIfS (tNot (tTru rTru (tVar 10))) (jUq (tBM "list" jUy (tOp rIxF (tVar 3) (tVar 8)) (jJb (jJz jJo (jJb (tVar 0) (jJb (tOp jJ4 (tCB rLen (jJb (tOp rIxF (tVar 3) (tVar 8)) tNil)) (tC (.int 1))) tNil))) (jJb (tTup (jJb (tVar 5) (jJb (tC (.int 1)) tNil))) tNil)))) jJ6))))))))))
 (tSeq (tAsg jKt (jJd 11))
 (tSeq (tFor (jKe (jJb (tVar 1) tNil)) (jJd 12) (tFor (kQ2 (jJb (tOp rIxF (tVar 3) (tVar 12)) tNil)) (gTup 2 (jJu (jJd 13) (jJu (jJd 14) gNil))) (tAsg (tTup (jJb (tVar 12) (jJb (tVar 13) tNil))) (gSub (tVar 11) (tVar 14) jK8))))
 (tRet (tCB jJ0 (jJb (jKh [false,false,false,false,false,false,false,false,false,false,false,false,false,false,false,true] (iSeq (tVar 3)) (jJd 15) jK6 (tCB jJ0 (jJb (jKh [false,false,false,false,false,true,false,false,false,false,false,false,false,false,true,false] (iSeq (tVar 15)) (gTup 2 (jJu (jJd 5) (jJu (jJd 14) gNil))) jK6 (tOp rIxF (tVar 11) (tTup (jJb (tVar 5) (jJb (tIf (jJx (tOp rIxF (tVar 4) (tVar 5))) (tVar 14) (tOp rSub (tC (.int 1)) (tVar 14))) tNil))))) tNil))) tNil))))))))
noncomputable def jYc:TS3:=(tSeq (tAsg (jVz (tOp rGe (tVar 5) (tOp rSub (tVar 1) (tC (.int 1)))) (tOp rEqA (jJz jJo (jJb (tVar 0) (jJb (tC (.int 4)) tNil))) (tC (.int 0)))) (jJd 10))
 (tSeq (tAsg (tVar 10) (gSub (tVar 4) (tVar 5) jK8))
 (tSeq (jUq (tBM "list" jUy (tOp rIxF (tVar 3) (tVar 7)) (jJb (jJz jJo (jJb (tVar 0) (jJb (tOp jJ4 (tCB rLen (jJb (tOp rIxF (tVar 3) (tVar 7)) tNil)) (tC (.int 1))) tNil))) (jJb (tTup (jJb (tVar 5) (jJb (tC (.int 0)) tNil))) tNil))))
 (tIfS (tNot (tTru rTru (tVar 10))) (jUq (tBM "list" jUy (tOp rIxF (tVar 3) (tVar 8)) (jJb (jJz jJo (jJb (tVar 0) (jJb (tOp jJ4 (tCB rLen (jJb (tOp rIxF (tVar 3) (tVar 8)) tNil)) (tC (.int 1))) tNil))) (jJb (tTup (jJb (tVar 5) (jJb (tC (.int 1)) tNil))) tNil)))) jJ6))))
noncomputable def jYb:TS3:=(tSeq (tAsg jKt (jJd 11))
 (tSeq (tFor (jKe (jJb (tVar 1) tNil)) (jJd 12) (tFor (kQ2 (jJb (tOp rIxF (tVar 3) (tVar 12)) tNil)) (gTup 2 (jJu (jJd 13) (jJu (jJd 14) gNil))) (tAsg (tTup (jJb (tVar 12) (jJb (tVar 13) tNil))) (gSub (tVar 11) (tVar 14) jK8))))
 (tRet (tCB jJ0 (jJb (jKh [false,false,false,false,false,false,false,false,false,false,false,false,false,false,false,true] (iSeq (tVar 3)) (jJd 15) jK6 (tCB jJ0 (jJb (jKh [false,false,false,false,false,true,false,false,false,false,false,false,false,false,true,false] (iSeq (tVar 15)) (gTup 2 (jJu (jJd 5) (jJu (jJd 14) gNil))) jK6 (tOp rIxF (tVar 11) (tTup (jJb (tVar 5) (jJb (tIf (jJx (tOp rIxF (tVar 4) (tVar 5))) (tVar 14) (tOp rSub (tC (.int 1)) (tVar 14))) tNil))))) tNil))) tNil)))))
theorem kK8:jYd=(tSeq (tAsg (jKh [false,false,false,false,false,false,false,false,false,false,false,false,true,false,false,false] (jKe (jJb (tVar 1) tNil)) (jJd 12) jK6 (tLst tNil)) (jJd 3))
 (tSeq (tAsg jKt (jJd 4))
 (tSeq (tFor (jKe (jJb (tOp jJ4 (tOp rSub (tVar 1) (tC (.int 1))) (tVar 2)) tNil)) (jJd 5) (tSeq (tAsg (jKh [false,false,false,false,false,false,false,false,false,false,false,false,true,false,false,false] (jKe (jJb (tVar 1) tNil)) (jJd 12) (jJx (tOp rLt (tCB rLen (jJb (tOp rIxF (tVar 3) (tVar 12)) tNil)) (tC (.int 5)))) (tVar 12)) (jJd 6))
 (tSeq (tIfS (jJx (tOp rEqA (tVar 6) (tLst tNil))) kU6 jJ6)
 (tSeq (tAsg (tOp rIxF (tVar 6) (jJz jJo (jJb (tVar 0) (jJb (tCB rLen (jJb (tVar 6) tNil)) tNil)))) (jJd 7))
 (tSeq (tAsg (tOp rIxF (tVar 6) (jJz jJo (jJb (tVar 0) (jJb (tCB rLen (jJb (tVar 6) tNil)) tNil)))) (jJd 8))
 (tSeq (tIfS (jJx (tOp rLt (tVar 5) (tOp rSub (tVar 1) (tC (.int 1))))) (tSeq (tAsg (tOp jJ4 (tVar 5) (tC (.int 1))) (jJd 8))
 (tSeq (tAsg (jKh [false,false,false,false,false,false,false,false,false,false,false,false,true,false,false,false] (iSeq (tVar 6)) (jJd 12) (jJx (tOp rLeF (tVar 12) (tVar 5))) (tVar 12)) (jJd 9))
 (tAsg (tOp rIxF (tVar 9) (jJz jJo (jJb (tVar 0) (jJb (tCB rLen (jJb (tVar 9) tNil)) tNil)))) (jJd 7)))) jJ6)
 jYc))))))
 jYb))):=rfl
theorem kU1 {E:Ends3} {b D d:Addr} {rs:List Addr} {n m k r1 r2 c:Nat} {v6 v9 v10 v11 v12 v13 v14 v15:Option T} {L:List (Nat×Nat×Nat)} {Hs:Web} {kvs:List (L2.Key×T)} {G:Gp} (hn:n<=12) (hk:k<20) (h1:r1<n) (h2:r2<n) (w:WI n k L kvs) (hh:HalfL L n Hs) (hR:RowsAt G D Hs rs) (hnd:(D::rs).Nodup) (hbD:b∉D::rs) (hdD:d∉D::rs) (hbd:b≠d) (hd:G d=some (.dck kvs)) (hb:BoxAt G b c) (hc:c+10<2^40)
  (kk:∀lp L' Hs' G' v10,L'=(L++[(r1,k,0)])++(if lp=true then [] else [(r2,k,1)])->HalfL L' n Hs'->RowsAt G' D Hs' rs->G' d=some (.dck (putT kvs (.inl (k:Nat)) (.bl lp)))->BoxAt G' b (c+3)->(∀a o,a≠b->a≠d->a∉D::rs->G a=some o->G' a=some o)->E.nx [some (.ref b),some (.int n),some (.int m),some (.ref D),some (.ref d),some (.int k),v6,some (.int r1),some (.int r2),v9,v10,v11,v12,v13,v14,v15] G'):
  jYc E [some (.ref b),some (.int n),some (.int m),some (.ref D),some (.ref d),some (.int k),v6,some (.int r1),some (.int r2),v9,v10,v11,v12,v13,v14,v15] G:=by
 have hs:=sz
 wp_walk using 1,jYc,rEqA
 have hkl:=w.kl
 have hln:=w.ln
 have fin:∀(lp:Bool) G1 c1 (K1:Gp->Prop),BoxAt G1 b c1->c1<=c+1->Keep b G G1->(∀G2,(if lp=false then InsP b D r2 k 1 G2 (fun G3=>E.nx [some (.ref b),some (.int n),some (.int m),some (.ref D),some (.ref d),some (.int k),v6,some (.int r1),some (.int r2),v9,some (.bl lp),v11,v12,v13,v14,v15] G3) else E.nx [some (.ref b),some (.int n),some (.int m),some (.ref D),some (.ref d),some (.int k),v6,some (.int r1),some (.int r2),v9,some (.bl lp),v11,v12,v13,v14,v15] G2)->K1 G2)->∃G',setR G1 (.ref d) (.int (k:Nat)) (.bl lp)=some G'/\InsP b D r1 k 0 G' K1:=by
  intro lp G1 c1 K1 bx hc1 kp hK1
  have hd1:=kp _ _ hbd.symm hd
  have hdn:∀a,a∈D::rs->a≠d:=fun a ha e=>hdD (e▸ha)
  refine⟨_,kK4 hd1 (by omega),?_⟩
  have R1:RowsAt (gup G1 d (.dck (putT kvs (.inl (k:Nat)) (.bl lp)))) D Hs rs:=by
   have R0:=hR.keep kp hbD
   exact⟨by rw[jJp (hdn D (List.mem_cons_self ..))];exact R0.1,R0.2.1,fun i r e=>by
    obtain⟨h0,e1,e2⟩:=R0.2.2 i r e
    exact⟨h0,e1,by rw[jJp (hdn r (List.mem_cons_of_mem _ (List.mem_of_getElem? e)))];exact e2⟩⟩
  refine kXw (s:=0) (c:=c1) rfl h1 hh (by omega) R1 hnd hbD (bx.gup hbd) (by omega) fun Hs1 G2 hh1 R2 b2 g2=>hK1 G2 ?_
  have hd2:=g2 d _ hbd.symm hdD jJg
  cases lp with
  | true=>
   rw[if_neg (by decide)]
   refine kk true _ Hs1 G2 _ rfl (by simpa using hh1) R2 hd2 (b2.mono (by omega)) fun a o e1 e2 e3 e4=> ?_
   exact g2 a o e1 e3 (by rw[jJp e2];exact kp _ _ e1 e4)
  | false=>
   rw[if_pos rfl]
   refine kXw (s:=1) (c:=c1+1) rfl h2 hh1 (by simp;omega) R2 hnd hbD b2 (by omega) fun Hs2 G3 hh2 R3 b3 g3=> ?_
   refine kk false _ Hs2 G3 _ rfl (by simpa using hh2) R3 (g3 d _ hbd.symm hdD hd2) (b3.mono (by omega)) fun a o e1 e2 e3 e4=> ?_
   exact g3 a o e1 e3 (g2 a o e1 e3 (by rw[jJp e2];exact kp _ _ e1 e4))
 split
 ·refine⟨b,4,c,rfl,hb,by omega,by decide,by decide,fun z G1 z0 z1 bx kp=>⟨decide (z=0),eqG_z,?_⟩⟩
  exact fin (decide (z=0)) G1 (c+1) _ bx (Nat.le_refl _) kp fun _ h=>h
 ·exact fin false G c _ hb (by omega) (.refl _ _) fun G2 h=>by rw[if_pos rfl] at h;exact h
def PlN:Nat->T->Prop
 | 0,t=>(∃i,t= .int i)\/∃b,t= .bl b
 | n+1,t=>((∃i,t= .int i)\/∃b,t= .bl b)\/∃ts,t= .tup ts/\ts.length<=2000/\∀u,u∈ts->PlN n u
def jXf (n:Nat):Sp3:=fun xs G Q=>∃t,xs=[t,t]/\PlN n t/\∀G',Sub G G'->Q (.bl true) G'
section
variable (jV0:Sp3)
def jVv:List Str:=["_law_found","_law_due","_law_one","_law_other"]
noncomputable def jKw:TS3:=
 (tSeq (tIfS (jJx (tCB rIsi (jJb (tVar 1) (jJb (tTup (jJb (tC (.ty "list")) (jJb (tC (.ty "tuple")) tNil))) tNil)))) (tSeq (tIfS (tOr (tNot (jJx (tCB rIsi (jJb (tVar 0) (jJb (tTup (jJb (tC (.ty "list")) (jJb (tC (.ty "tuple")) tNil))) tNil))))) (jJx (tOp rNeA (tCB rIsi (jJb (tVar 0) (jJb (tC (.ty "list")) tNil))) (tCB rIsi (jJb (tVar 1) (jJb (tC (.ty "list")) tNil)))))) (tRet (tC (.bl false))) jJ6)
 (tRet (jVz (tOp rEqA (tCB rLen (jJb (tVar 0) tNil)) (tCB rLen (jJb (tVar 1) tNil))) (tCB rAll (jJb (jKh [false,false,true,true] (iZip (jJb (tVar 0) (jJb (tVar 1) tNil))) (gTup 2 (jJu (jJd 2) (jJu (jJd 3) gNil))) jK6 (jJz jV0 (jJb (tVar 2) (jJb (tVar 3) tNil)))) tNil))))) jJ6)
 (tSeq (tIfS (jJx (tOp rIsN (tVar 1) (tC .non))) (tRet (tOp rIsN (tVar 0) (tC .non))) jJ6)
 (tRet (jVz (tCB rIsi (jJb (tVar 0) (jJb (tC (.ty "int")) tNil))) (jVz (tOp rEqA (tCB rIsi (jJb (tVar 0) (jJb (tC (.ty "bool")) tNil))) (tCB rIsi (jJb (tVar 1) (jJb (tC (.ty "bool")) tNil)))) (tOp rEqA (tVar 0) (tVar 1)))))))
end
theorem isi_ib {G:Gp} {i:Int}:isiT G (.int i) (.ty "bool")=some false:=rfl
theorem isi_il {G:Gp} {i:Int}:isiT G (.int i) (.tup [.ty "list",.ty "tuple"])=some false:=rfl
theorem isi_ii {G:Gp} {i:Int}:isiT G (.int i) (.ty "int")=some true:=rfl
theorem isi_bb {G:Gp} {i:Bool}:isiT G (.bl i) (.ty "bool")=some true:=rfl
theorem isi_bl {G:Gp} {i:Bool}:isiT G (.bl i) (.tup [.ty "list",.ty "tuple"])=some false:=rfl
theorem isi_bi {G:Gp} {i:Bool}:isiT G (.bl i) (.ty "int")=some true:=rfl
theorem kY8 {G:Gp} {ts:List T}:isiT G (.tup ts) (.tup [.ty "list",.ty "tuple"])=some true:=rfl
theorem isi_tl {G:Gp} {ts:List T}:isiT G (.tup ts) (.ty "list")=some false:=rfl
theorem kUe {G:Gp} {a:Bool}:eqG G (.bl a) (.bl a)=some true:=by
 rw[show eqG G (.bl a) (.bl a)=some (eqT (.bl a) (.bl a)) from rfl]
 simp[eqT]
theorem jZ8 {G:Gp} {a:Int}:eqG G (.int a) (.int a)=some true:=by
 rw[show eqG G (.int a) (.int a)=some (eqT (.int a) (.int a)) from rfl]
 simp[eqT]
theorem jVb (sp:Sp3):∀xs G Q,jXf 0 xs G Q->jKw sp {nx:=fun _ G'=>Q .non G',rt:=Q} (jKu jVv xs) G:=by
 intro xs G Q h_;apply xe1 h_;clear h_;intro t h_;apply ae2 h_;clear h_;intro ht kk
 show jKw _ _ [some t,some t,none,none] G
 have hs:=sz
 rcases ht with ⟨i,rfl⟩ | ⟨i,rfl⟩
 ·wp_walk using 1,jKw,rIsi,rEqA,jZ8,kUe,isi_ib,isi_il,isi_ii
  exact⟨by omega,kk G (.refl _)⟩
 ·wp_walk using 1,jKw,rIsi,rEqA,jZ8,kUe,isi_bb,isi_bl,isi_bi
  exact⟨by omega,kk G (.refl _)⟩
theorem kUy {ts:List T}:zipT ts ts=ts.map fun t=>T.tup [t,t]:=by
 unfold zipT
 induction ts with
 | nil=>rfl
 | cons a as ih=>rw[List.zip_cons_cons,List.map_cons,ih];rfl
theorem jQ5 (n:Nat):∀xs G Q,jXf (n+1) xs G Q->jKw (jXf n) {nx:=fun _ G'=>Q .non G',rt:=Q} (jKu jVv xs) G:=by
 intro xs G Q h_;apply xe1 h_;clear h_;intro t h_;apply ae2 h_;clear h_;intro ht kk
 rcases ht with h | ⟨ts,rfl,hl,hts⟩
 ·exact jVb _ _ _ _ ⟨t,rfl,h,kk⟩
 ·rw[show jKu jVv [.tup ts,.tup ts]=[some (.tup ts),some (.tup ts),none,none] from rfl]
  have hs:=sz
  wp_walk using 1,jKw,rIsi,rEqA,rNeA,iZip,kY8,isi_tl,kUe,jZ8
  refine⟨by omega,by omega,?_⟩
  rw[kUy]
  refine jVs (fun _=>T.bl true) (by omega) (fun _ _=>trivial) ?_ ?_
  ·intro i t ht G' K K0 s hk
   wp_walk using 1,tSeq
   exact⟨t,rfl,hts t (List.mem_of_getElem? ht),fun G4 s4=>hk G4 s4⟩
  ·intro D G' hD h1 h2
   refine⟨D,_,_,rfl,h1,jXc (f:=fun _=>true),?_⟩
   rw[List.all_eq_true.mpr (fun _ _=>rfl)]
   exact kk G' h2
theorem pl_int {n:Nat} {i:Int}:PlN n (.int i):=by
 cases n with
 | zero=>exact .inl ⟨i,rfl⟩
 | succ n=>exact .inl (.inl ⟨i,rfl⟩)
noncomputable def jX5:Sp3:=fun xs G Q=>∃(b:Addr) (n m c:Nat),xs=[.ref b,.int n,.int m]/\BoxAt G b c/\c+300<2^40/\1<=n/\n<=12/\2<=m/\m<=5/\∀(W:Web) G',Fine W->Sym W->2<=(jKq W).length->W.length=n->BoxAt G' b (c+100)->Keep b G G'->Q (encW W) G'
theorem kUk {mask:List Bool} {g:TG3} {tif:TT3} {te:TE3} {τ:St3} {xs:List T} {stay:Gp->Prop} {G:Gp} {Q:VK3} (Pr:Nat->T->Prop) (hz:xs.length<=sizeLine) (hst:∀G',Sub G G'->stay G')
  (h:∀(i:Nat) x,xs[i]? =some x->∀G' (K:T->Gp->Prop) (K0:Gp->Prop),Sub G G'->(∀t G4,Pr i t->Sub G' G4->K t G4)->g x (msk mask τ) G' fun τ2 G2=>tif τ2 G2 fun b G3=>if b=true then te τ2 G3 K else K0 G3)
  (hq:∀D ts G',G D=none->G' D=some (.lst ts)->ts.length=xs.length->(∀(i:Nat) t,ts[i]? =some t->Pr i t)->Sub G G'->Q (.ref D) G'):jXz mask g tif te τ xs stay G Q:=by
 intro D hD
 refine⟨fun i acc G'=>acc.length=i/\(∀(j:Nat) t,acc[j]? =some t->Pr j t)/\Sub G G'/\G' D=some (.lst acc),?_,?_,?_,?_⟩
 ·exact⟨rfl,fun j t z=>by simp at z,.new hD,jJg⟩
 ·rintro i acc G' hi ⟨j1,j2,j4,j5⟩
  exact⟨hst G' j4,j5⟩
 ·rintro i x acc G3 hx ⟨j1,j2,j4,j5⟩
  have hi:i<xs.length:=(List.getElem?_eq_some_iff.mp hx).1
  refine h i x hx G3 _ _ j4 fun t G4 hp kp=> ?_
  refine⟨kp _ _ j5,by omega,by simp[j1],?_,(j4.trans kp).over hD,jJg⟩
  intro j u hu
  by_cases hjl:j<acc.length
  ·rw[List.getElem?_append_left hjl] at hu;exact j2 j u hu
  ·have:=(List.getElem?_eq_some_iff.mp hu).1
   simp at this
   have:j=acc.length:=by omega
   subst this
   rw[List.getElem?_append_right (Nat.le_refl _)] at hu
   simp at hu;subst hu
   rw[j1];exact hp
 ·rintro acc G3 ⟨j1,j2,j4,j5⟩
  exact hq D acc G3 hD j5 j1 j2 j4
theorem jZ1 {β:Type} {enc:β->T}:∀(ts:List T) (P:Nat->β->Prop),(∀(i:Nat) t,ts[i]? =some t->∃b,t=enc b/\P i b)->∃bs:List β,ts=bs.map enc/\∀(i:Nat) b,bs[i]? =some b->P i b
 | [],_,_=>⟨[],rfl,fun i b h=>by simp at h⟩
 | t::ts,P,h=>by
  obtain⟨b,rfl,hb⟩:=h 0 t rfl
  obtain⟨bs,rfl,h2⟩:=jZ1 ts (fun i=>P (i+1)) fun i t hi=>h (i+1) t hi
  refine⟨b::bs,rfl,fun i c hc=> ?_⟩
  cases i with
  | zero=>cases hc;exact hb
  | succ i=>exact h2 i c hc
def par (kvs:List (L2.Key×T)) (x:Nat×Nat):Nat×Nat:=match valT kvs (.inl (x.1:Nat)) with
 | some (.bl true)=>x
 | _=>(x.1,1-x.2)
def Has (Hs:Web) (kvs:List (L2.TKey×T)) (x:Nat×Nat):Prop:=∃e:Nat×Nat,valT kvs (keyE x)=some (encE e)/\en Hs e.1 e.2=some x
theorem Has.put {Hs:Web} {kvs:List (L2.TKey×T)} {x y e:Nat×Nat} (h:Has Hs kvs x) (he:en Hs e.1 e.2=some y):Has Hs (putT kvs (keyE y) (encE e)) x:=by
 obtain⟨f,h1,h2⟩:=h
 unfold Has
 rw[jQw]
 by_cases z:keyE y=keyE x
 ·rw[if_pos z];cases jYk z;exact⟨e,rfl,he⟩
 ·rw[if_neg z];exact⟨f,h1,h2⟩
theorem Has.self {Hs:Web} {kvs:List (L2.TKey×T)} {y e:Nat×Nat} (he:en Hs e.1 e.2=some y):Has Hs (putT kvs (keyE y) (encE e)) y:=⟨e,by rw[jQw,if_pos rfl],he⟩
theorem kXv {α β:Type} {f:α->β}:∀ {L:List α},(L.map f).Nodup->∀ {a b:α},a∈L->b∈L->f a=f b->a=b
 | x::L,h,a,b,ha,hb,e=>by
  rw[List.map_cons,List.nodup_cons] at h
  rcases (List.mem_cons.mp ha) with ea | ha'
  ·rcases (List.mem_cons.mp hb) with eb | hb'
   ·rw[ea,eb]
   ·exact absurd (by rw[<-ea,e];exact List.mem_map_of_mem hb') h.1
  ·rcases (List.mem_cons.mp hb) with eb | hb'
   ·exact absurd (by rw[<-eb,<-e];exact List.mem_map_of_mem ha') h.1
   ·exact kXv h.2 ha' hb' e
theorem HalfL.one {L:List (Nat×Nat×Nat)} {n r i r' i':Nat} {x:Nat×Nat} {Hs:Web} (h:HalfL L n Hs) (nd:(L.map fun x=>x.2).Nodup) (h1:en Hs r i=some x) (h2:en Hs r' i'=some x):r=r'/\i=i':=by
 have hrr:r=r':=congrArg Prod.fst (kXv nd (h.mem h1) (h.mem h2) rfl)
 subst hrr
 refine⟨rfl,?_⟩
 obtain⟨es,z1,z2⟩:=jK4 h1
 obtain⟨es',z3,z4⟩:=jK4 h2
 rw[z1] at z3;cases z3
 have nd:es.Nodup:=by
  rw[(h.perm r es z1).nodup_iff]
  exact (List.filter_sublist.map _).nodup nd
 exact (List.getElem?_inj (List.getElem?_eq_some_iff.mp z2).1 nd).mp (z2.trans z4.symm)
structure Tied (Hs W:Web) (f:Nat×Nat->Nat×Nat):Prop where
 len:W.length=Hs.length
 rl:∀(r:Nat) (es:List (Nat×Nat)),W[r]? =some es->es.length=(row Hs r).length
 to:∀r i x,en Hs r i=some x->∃e,en W r i=some e/\en Hs e.1 e.2=some (f x)
theorem Tied.at {Hs W:Web} {f:Nat×Nat->Nat×Nat} (t:Tied Hs W f) {r i:Nat} {e:Nat×Nat} (h:en W r i=some e):∃x,en Hs r i=some x/\en Hs e.1 e.2=some (f x):=by
 obtain⟨es,h1,h2⟩:=jK4 h
 have hr:r<Hs.length:=by rw[<-t.len];exact (List.getElem?_eq_some_iff.mp h1).1
 have hrow:Hs[r]? =some (row Hs r):=by rw[row,List.getElem?_eq_getElem hr];rfl
 have hi:i<(row Hs r).length:=by rw[<-t.rl r es h1];exact (List.getElem?_eq_some_iff.mp h2).1
 have hx:=jU4 hrow (List.getElem?_eq_getElem hi)
 obtain⟨e',q1,q2⟩:=t.to r i _ hx
 rw[h] at q1;cases q1
 exact⟨_,hx,q2⟩
theorem Tied.sym {Hs W:Web} {f:Nat×Nat->Nat×Nat} (t:Tied Hs W f) (one:∀r i r' i' x,en Hs r i=some x->en Hs r' i'=some x->r=r'/\i=i') (inv:∀r i x,en Hs r i=some x->f (f x)=x):Sym W:=by
 intro r i s j h
 obtain⟨x,h1,h2⟩:=t.at h
 obtain⟨e,h3,h4⟩:=t.to s j _ h2
 rw[inv r i x h1] at h4
 obtain⟨q1,q2⟩:=one _ _ _ _ _ h4 h1
 rw[h3];congr 1;exact Prod.ext q1 q2
theorem two_of {α:Type} {l:List α} {a b:α} (ha:a∈l) (hb:b∈l) (h:a≠b):2<=l.length:=by
 match l,ha,hb with
 | [x],ha,hb=>exact absurd ((List.mem_singleton.mp ha).trans (List.mem_singleton.mp hb).symm) h
 | _::_::_,_,_=>simp
theorem Tied.two {Hs W:Web} {f:Nat×Nat->Nat×Nat} {x y:Nat×Nat} {r i s j:Nat} (t:Tied Hs W f) (sym:Sym W) (hf:∀x,(f x).1=x.1) (hx:en Hs r i=some x) (hy:en Hs s j=some y) (h:x.1≠y.1):2<=(jKq W).length:=by
 have key:∀r i x,en Hs r i=some x->∃z:Tie,z∈jKq W/\∃w,en Hs z.1.1 z.1.2=some w/\w.1=x.1:=by
  intro r i x hx
  obtain⟨⟨s,j⟩,h1,h2⟩:=t.to r i x hx
  by_cases hl:leE (r,i) (s,j)=true
  ·exact⟨((r,i),(s,j)),endsL_mem.mpr ⟨h1,hl⟩,x,hx,rfl⟩
  ·have h3:=sym _ _ _ _ h1
   have hl2:leE (s,j) (r,i)=true:=by rw[kQt];rw[kQt] at hl;simp only at hl ⊢; omega
   exact⟨((s,j),(r,i)),endsL_mem.mpr ⟨h3,hl2⟩,_,h2,hf x⟩
 obtain⟨z,z1,w,z2,z3⟩:=key r i x hx
 obtain⟨z',z1',w',z2',z3'⟩:=key s j y hy
 refine two_of z1 z1' fun e=>h ?_
 rw[e,z2'] at z2;cases z2
 rw[<-z3,z3']
theorem kY6 {G:Gp} {p:Addr} {kvs:List (L2.Key×T)} {k:Int} {t:T} (h:G p=some (.dck kvs)) (ht:valT kvs (.inl k)=some t):ixR G (.ref p) (.int k)=some t:=by
 simp only[ixR,seqT,h,asL,dAt,jU0,ht]
theorem kX6 {Q:VK3} {b D d:Addr} {rs:List Addr} {n k:Nat} {m:Int} {v5 v6 v7 v8 v9 v10 v12:Option T} {L:List (Nat×Nat×Nat)} {Hs:Web} {kvs:List (L2.Key×T)} {G:Gp} (hn:n<=12) (w:WI n k L kvs) (hh:HalfL L n Hs) (hR:RowsAt G D Hs rs) (hd:G d=some (.dck kvs)) (hk:k<20)
  (hk2:2<=k) (kk:∀(W:Web) G',Fine W->Sym W->2<=(jKq W).length->W.length=n->Sub G G'->Q (encW W) G'):
  jYb {nx:=fun _ G'=>Q .non G',rt:=Q} [some (.ref b),some (.int n),some (.int m),some (.ref D),some (.ref d),v5,v6,v7,v8,v9,v10,none,v12,none,none,none] G:=by
 have hs:=sz
 have hln:=w.ln
 wp_walk using 1,jYb,jKt,jJ3,jKe,kQ2
 refine .inl fun p hp=>⟨by omega,by omega,?_⟩
 rw[show ((n:Nat):Int).toNat=n by omega]
 let J1:Nat->St3->Gp->Prop:=fun r τ G'=>∃(v12 v13 v14:Option T) (ws:List (L2.TKey×T)),τ=[some (.ref b),some (.int n),some (.int m),some (.ref D),some (.ref d),v5,v6,v7,v8,v9,v10,some (.ref p),v12,v13,v14,none]/\G' p=some (.dct ws)/\ws.length<=100*r/\(∀r',r'<r->∀x,x∈row Hs r'->Has Hs ws x)/\Sub G G'
 refine⟨J1,?_,?_,?_,?_⟩
 ·exact xi4 _ _ _ [] rfl ⟨jJg,Nat.zero_le _,fun r hr=>absurd hr (Nat.not_lt_zero _),.new hp⟩
 ·intros;trivial
 ·intro r y τ G1 hy h_;apply xe4 h_;clear h_;intro v12 v13 v14 ws h_;apply ae4 h_;clear h_;intro h1 h2 h3 s1
  obtain⟨hr,rfl⟩:=jVn hy
  have hrl:r<Hs.length:=by rw[hh.len];exact hr
  have hrow:Hs[r]? =some (row Hs r):=by rw[row,List.getElem?_eq_getElem hrl];rfl
  have hlen:=hh.len_le hrow
  have R1:=hR.sub s1
  obtain⟨a,a1,a2,a3⟩:=R1.get hrl
  wp_walk using 1,jJ3,kQ2,jJ9 R1.1,a2
  have hla:jXk G1 (.ref a)=some ((row Hs r).map encE):=by rw[show jXk G1 (.ref a)=asL (G1 a) from rfl,a3];rfl
  refine⟨_,hla,?_⟩
  let J2:Nat->St3->Gp->Prop:=fun i τ G'=>∃(v13 v14:Option T) (ws:List (L2.TKey×T)),τ=[some (.ref b),some (.int n),some (.int m),some (.ref D),some (.ref d),v5,v6,v7,v8,v9,v10,some (.ref p),some (.int r),v13,v14,none]/\G' p=some (.dct ws)/\ws.length<=100*r+i/\(∀r',r'<r->∀x,x∈row Hs r'->Has Hs ws x)/\(∀x,x∈(row Hs r).take i->Has Hs ws x)/\Sub G G'
  refine⟨J2,?_,?_,?_,?_⟩
  ·exact xi3 _ _ ws rfl ⟨h1,h2,h3,fun x hx=>by simp at hx,s1⟩
  ·intro i τ G' hi h_;apply xe3 h_;clear h_;intro v13 v14 ws h_;apply ae5 h_;clear h_;intro i1 i2 i3 i4 s2
   obtain⟨a',b1,b2,b3⟩:=(hR.sub s2).get hrl
   rw[a1] at b1;cases b1
   rw[show jXk G' (.ref a)=asL (G' a) from rfl,b3];rfl
  ·intro i y τ G2 hy h_;apply xe3 h_;clear h_;intro v13 v14 ws h_;apply ae5 h_;clear h_;intro i1 i2 i3 i4 s2
   obtain⟨z,hz,rfl⟩:=jQu hy
   obtain⟨x,hx,rfl⟩:=jJ5 hz
   have hi:i<(row Hs r).length:=(List.getElem?_eq_some_iff.mp hx).1
   wp_walk using 1,tSeq
   refine⟨by omega,_,jVl i1 (ks:=keyE x) rfl (by omega),xi3 _ _ (putT ws (keyE x) (encE (r,i))) rfl ⟨jJg,by have:=jUc ws (keyE x) (encE (r,i));omega,fun r' hr' x' hx'=>(i3 r' hr' x' hx').put (e:=(r,i)) (jU4 hrow hx),fun x' hx'=> ?_,s2.over hp⟩⟩
   rw[List.take_succ,hx] at hx'
   rcases (List.mem_append.mp hx') with hx' | hx'
   ·exact (i4 x' hx').put (e:=(r,i)) (jU4 hrow hx)
   ·have:x'=x:=by simpa using hx'
    subst this;exact Has.self (e:=(r,i)) (jU4 hrow hx)
  ·intro τ G2 h_;apply xe3 h_;clear h_;intro v13 v14 ws h_;apply ae5 h_;clear h_;intro i1 i2 i3 i4 s2
   rw[jK2,List.length_map,List.take_length] at i4
   rw[jK2,List.length_map] at i2
   refine xi4 _ _ _ ws rfl ⟨i1,by omega,fun r' hr' x hx=> ?_,s2⟩
   by_cases z:r'=r
   ·subst z;exact i4 x hx
   ·exact i3 r' (by omega) x hx
 ·intro τ G1 h_;apply xe4 h_;clear h_;intro v12 v13 v14 ws h_;apply ae4 h_;clear h_;intro h1 h2 h3 s1
  rw[jVm] at h3
  have R1:=hR.sub s1
  wp_walk using 1,iSeq,jJm R1.1
  have hrn:rs.length=n:=by rw[hR.2.1];exact hh.len
  have has:∀r y,(r,y)∈L->Has Hs ws y:=fun r y hy=>by
   have hr:=(w.rm _ hy).1
   obtain⟨q,hq⟩:=hh.of hr hy
   obtain⟨es,e1,e2⟩:=jK4 hq
   exact h3 r hr y (by rw[jU9 e1];exact List.mem_of_getElem? e2)
  refine kUk (fun i t=>∃es:List (Nat×Nat),t=encR es/\es.length=(row Hs i).length/\∀(j:Nat) e,es[j]? =some e->∀x,(row Hs i)[j]? =some x->en Hs e.1 e.2=some (par kvs x)) (by rw[List.length_map];omega) (fun G' s=>jJm (s _ _ R1.1)) ?_ ?_
  ·intro i x hx G2 K K0 s2 hK
   obtain⟨a,ha,rfl⟩:=jJ5 hx
   have hi:i<n:=by rw[<-hrn];exact (List.getElem?_eq_some_iff.mp ha).1
   have hrl:i<Hs.length:=by rw[hh.len];exact hi
   have hrow:Hs[i]? =some (row Hs i):=by rw[row,List.getElem?_eq_getElem hrl];rfl
   have hlen:=hh.len_le hrow
   obtain⟨a',b1,b2,b3⟩:=(R1.sub s2).get hrl
   rw[ha] at b1;cases b1
   wp_walk using 1,iSeq,jJm b3
   refine kUk (fun j t=>∃e:Nat×Nat,t=encE e/\∀x,(row Hs i)[j]? =some x->en Hs e.1 e.2=some (par kvs x)) (by rw[List.length_map];omega) (fun G' s=>jJm (s _ _ b3)) ?_ ?_
   ·intro j y hy G3 K2 K3 s3 hK2
    obtain⟨x,hxj,rfl⟩:=jJ5 hy
    have hxL:(i,x)∈L:=hh.mem (jU4 hrow hxj)
    obtain⟨lp,l1,l2,l3⟩:=w.ld _ hxL
    obtain⟨_,m2,_⟩:=w.rm _ hxL
    have hd3:=s3 _ _ (s2 _ _ (s1 _ _ hd))
    have hp3:=s3 _ _ (s2 _ _ h1)
    wp_walk using 1,encE,kY6 hd3 l1
    cases lp with
    | true=>
     have hp:par kvs x=x:=by unfold par;rw[l1]
     obtain⟨e,e1,e2⟩:=has _ _ hxL
     wp_walk using 1,tSeq
     exact⟨by omega,_,jZ5 hp3 (ks:=keyE x) rfl e1,hK2 _ G3 ⟨e,rfl,fun x' hx'=>by rw[hxj] at hx';cases hx';rw[hp];exact e2⟩ (.refl _)⟩
    | false=>
     have hp:par kvs x=(x.1,1-x.2):=by unfold par;rw[l1]
     obtain⟨r',hr'⟩:=l3 rfl
     obtain⟨e,e1,e2⟩:=has _ _ hr'
     wp_walk using 1,tSeq
     refine⟨by omega,_,jZ5 hp3 (ks:=keyE (x.1,1-x.2)) ?_ e1,hK2 _ G3 ⟨e,rfl,fun x' hx'=>by rw[hxj] at hx';cases hx';rw[hp];exact e2⟩ (.refl _)⟩
     rw[show (1:Int)-(x.2:Nat)=((1-x.2:Nat):Int) by have:x.2<=1:=m2;omega];rfl
   ·intro E ts G3 hE hE3 hl hts s3
    obtain⟨es,rfl,hes⟩:=jZ1 ts _ hts
    simp only[List.length_map] at hl
    exact⟨_,jJm hE3,hK _ G3 ⟨es,rfl,hl,hes⟩ s3⟩
  ·intro E ts G2 hE hE2 hl hts s2
   obtain⟨W,rfl,hW⟩:=jZ1 ts _ hts
   simp only[List.length_map] at hl
   have ti:Tied Hs W (par kvs):=⟨by rw[hl,hrn,hh.len],fun r es h=>(hW r es h).1,fun r i x hx=>by
    obtain⟨ro,q1,q2⟩:=jK4 hx
    have hrl:r<Hs.length:=(List.getElem?_eq_some_iff.mp q1).1
    have hWr:W[r]? =some (W[r]'(by rw[hl,hrn,<-hh.len];exact hrl)):=List.getElem?_eq_getElem _
    obtain⟨g1,g2⟩:=hW r _ hWr
    rw[jU9 q1] at g1 g2
    have hi:i<(W[r]'(by rw[hl,hrn,<-hh.len];exact hrl)).length:=by rw[g1];exact (List.getElem?_eq_some_iff.mp q2).1
    exact⟨_,jU4 hWr (List.getElem?_eq_getElem hi),g2 i _ (List.getElem?_eq_getElem hi) x q2⟩⟩
   have inv:∀r i x,en Hs r i=some x->par kvs (par kvs x)=x:=fun r i x hx=>by
    have hxL:=hh.mem hx
    obtain⟨lp,l1,l2,l3⟩:=w.ld _ hxL
    have m2:x.2<=1:=(w.rm _ hxL).2.1
    cases lp with
    | true=>
     have hp:par kvs x=x:=by unfold par;rw[l1]
     rw[hp,hp]
    | false=>
     have hp:par kvs x=(x.1,1-x.2):=by unfold par;rw[l1]
     have hp2:par kvs (x.1,1-x.2)=(x.1,1-(1-x.2)):=by unfold par;rw[l1]
     rw[hp,hp2];exact Prod.ext rfl (by show 1-(1-x.2)=x.2;omega)
   have sym:Sym W:=ti.sym (fun r i r' i' x=>hh.one w.nd) inv
   have hf:∀x,(par kvs x).1=x.1:=fun x=>by unfold par;split<;>rfl
   obtain⟨ra,ha⟩:=w.two 0 (by omega) (by decide)
   obtain⟨rb,hb⟩:=w.two 1 (by omega) (by decide)
   obtain⟨ia,ha'⟩:=hh.of (w.rm _ ha).1 ha
   obtain⟨ib,hb'⟩:=hh.of (w.rm _ hb).1 hb
   have two:=ti.two sym hf ha' hb' (by decide)
   refine⟨_,jJm hE2,kk W G2 ⟨by omega,fun r es h=> ?_,fun r i s j h=>en_lt (sym _ _ _ _ h)⟩ sym two (by omega) (s1.trans s2)⟩
   rw[(hW r es h).1]
   have hrl:r<Hs.length:=by rw[<-ti.len];exact (List.getElem?_eq_some_iff.mp h).1
   have:=hh.len_le (show Hs[r]? =some (row Hs r) by rw[row,List.getElem?_eq_getElem hrl];rfl)
   omega
theorem kKc:RdOk jX5 jYd kZu:=by
 intro xs G Q h_;apply xe4 h_;clear h_;intro b n m c h_;apply ae7 h_;clear h_;intro hb hc hn1 hn2 hm2 hm kk
 show jYd _ [some (.ref b),some (.int n),some (.int m),none,none,none,none,none,none,none,none,none,none,none,none,none] G
 have hs:=sz
 rw[kK8]
 wp_walk using 1,jJ3,jKe
 refine⟨by omega,by omega,?_⟩
 obtain⟨bo,hbo⟩:=hb.some
 rw[show ((n:Nat):Int).toNat=n by omega,jUa]
 refine jXw (fun _=>[]) (by simp;omega) (fun _ _=>trivial) ?_ ?_
 ·intro x x' hx G' K K0 s hk
  wp_walk using 1,tSeq
  exact⟨by omega,fun p hp=>hk p _ hp jJg (.new hp)⟩
 ·intro D rs G1 hD hD1 s1 hrl hnd hrs
  rw[List.length_range] at hrl
  wp_walk using 1,jKt
  refine .inr fun d hd=>⟨by omega,by omega,?_⟩
  have hdG:=s1.none hd
  have hfr:∀r,r∈D::rs->G r=none:=by
   intro r z
   rcases (List.mem_cons.mp z) with rfl | z
   ·exact hD
   obtain⟨j,hj⟩:=List.getElem?_of_mem z
   have hjl:j<rs.length:=(List.getElem?_eq_some_iff.mp hj).1
   exact (hrs j r j hj (by rw[List.getElem?_range (by omega)])).1
  have hsm:∀r,r∈D::rs->∃o,G1 r=some o:=by
   intro r z
   rcases (List.mem_cons.mp z) with rfl | z
   ·exact⟨_,hD1⟩
   obtain⟨j,hj⟩:=List.getElem?_of_mem z
   have hjl:j<rs.length:=(List.getElem?_eq_some_iff.mp hj).1
   exact⟨_,(hrs j r j hj (by rw[List.getElem?_range (by omega)])).2⟩
  have hbD:b∉D::rs:=fun z=>by have:=hfr b z;rw[hbo] at this;cases this
  have hdD:d∉D::rs:=fun z=>by obtain⟨o,ho⟩:=hsm d z;rw[hd] at ho;cases ho
  have hbd:b≠d:=jJj (s1 _ _ hbo) hd
  rw[show (((n:Nat):Int)-1+(m:Nat)).toNat=n-1+m by omega]
  let J1:Nat->St3->Gp->Prop:=fun k τ G'=>∃(v5 v6 v7 v8 v9 v10 v12:Option T) (L:List (Nat×Nat×Nat)) (Hs:Web) (kvs:List (L2.Key×T)),τ=[some (.ref b),some (.int n),some (.int m),some (.ref D),some (.ref d),v5,v6,v7,v8,v9,v10,none,v12,none,none,none]/\WI n k L kvs/\HalfL L n Hs/\RowsAt G' D Hs rs/\G' d=some (.dck kvs)/\BoxAt G' b (c+6*k)/\Keep b G G'
  refine⟨J1,?_,?_,?_,?_⟩
  ·refine xi10 none none none none none none none [] (List.replicate n []) [] rfl ⟨⟨fun x hx=>(by cases hx),fun x hx=>(by cases hx),Nat.le_refl _,fun _ x hx=>(by cases hx),Nat.le_refl _,List.nodup_nil,fun j h=>absurd h (Nat.not_lt_zero _)⟩,⟨by simp,?_⟩,⟨?_,by simp[hrl],?_⟩,jJg,(hb.sub s1).gup hbd,(Keep.sub s1).over hdG⟩
   ·intro r hs' h
    rw[List.getElem?_replicate] at h
    split at h
    ·cases h;simp
    ·cases h
   ·rw[jJp fun e=>hdD (by rw[<-e];exact List.mem_cons_self ..)];exact hD1
   ·intro i r h
    have hi:i<n:=by rw[<-hrl];exact (List.getElem?_eq_some_iff.mp h).1
    exact⟨[],by simp[hi],by rw[jJp fun e=>hdD (by rw[<-e];exact List.mem_cons_of_mem _ (List.mem_of_getElem? h))];exact (hrs i r i h (by simp[hi])).2⟩
  ·intros;trivial
  ·intro k y τ G2 hy h_;apply xe10 h_;clear h_;intro v5 v6 v7 v8 v9 v10 v12 L Hs kvs h_;apply ae6 h_;clear h_;intro hw hh hR hdk hbx hkp
   obtain⟨hk,rfl⟩:=jVn hy
   have hkn:k<20:=by omega
   have fin:∀(r1 r2:Nat) G8 c8 (u6 u9:Option T),r1<n->r2<n->(k+1<n->r1<=k+1/\r2<=k+1)->BoxAt G8 b c8->c8+3<=c+6*(k+1)->Keep b G2 G8->jYc {nx:=J1 (k+1),rt:=Q,bk:=jYb {nx:=fun _ G'=>Q .non G',rt:=Q},ct:=J1 (k+1)} [some (.ref b),some (.int n),some (.int m),some (.ref D),some (.ref d),some (.int k),u6,some (.int r1),some (.int r2),u9,v10,none,v12,none,none,none] G8:=by
    intro r1 r2 G8 c8 u6 u9 h1 h2 ht bx hc8 kp
    refine kU1 hn2 hkn h1 h2 hw hh (hR.keep kp hbD) hnd hbD hdD hbd (kp _ _ hbd.symm hdk) bx (by omega) fun lp L' Hs' G' u10 eL hh' R' hd' b' g'=> ?_
    refine xi10 _ _ _ _ _ _ _ L' Hs' _ rfl ⟨by rw[eL];exact hw.step h1 h2 ht,hh',R',hd',b'.mono hc8,fun a o ha ho=> ?_⟩
    exact g' a o ha (jJj ho hdG) (fun z=>by rw[hfr a z] at ho;cases ho) (kp _ _ ha (hkp _ _ ha ho))
   wp_walk using 1,jKe,rEqA,iSeq,kU6
   refine⟨by omega,by omega,?_⟩
   rw[show ((n:Nat):Int).toNat=n by omega,jUa]
   refine jYs (fun r=>if (row Hs r).length<5 then some (T.int (r:Nat)) else none) (by simp;omega) (fun _ _=>trivial) ?_ ?_
   ·intro i r hr G3 K K0 s3 hK hK0
    obtain⟨q1,q2⟩:=List.getElem?_eq_some_iff.mp hr
    simp at q1 q2;subst q2
    obtain⟨a,a1,a2,a3⟩:=(hR.sub s3).get (x:=i) (by rw[hh.len];exact q1)
    wp_walk using 1,jJ9 (hR.sub s3).1,a2,jJm a3,List.length_map
    by_cases h5:(row Hs i).length<5
    ·rw[if_pos (by omega)]
     exact hK _ _ (by rw[if_pos h5]) (.refl _)
    ·rw[if_neg (by omega)]
     exact hK0 (by rw[if_neg h5]) _ (.refl _)
   ·intro f G3 hf hf3 s3
    obtain⟨F,hF1,hF2⟩:∃F:List Nat,(List.range n).filterMap (fun r=>if (row Hs r).length<5 then some (T.int (r:Nat)) else none)=jJt F/\F=(List.range n).filter fun r=>decide ((row Hs r).length<5):=by
     refine⟨_,?_,rfl⟩
     generalize List.range n=l
     induction l with
     | nil=>rfl
     | cons a as ih=>
      rw[List.filterMap_cons,List.filter_cons]
      by_cases h:(row Hs a).length<5<;>simp[h,ih,jJt]
    rw[hF1] at hf3
    have hFm:∀r,r∈F↔r<n/\(row Hs r).length<5:=fun r=>by rw[hF2,List.mem_filter,List.mem_range];simp
    have hFl:F.length<=n:=by rw[hF2];have:=List.length_filter_le (fun r=>decide ((row Hs r).length<5)) (List.range n);rw[List.length_range] at this;exact this
    refine⟨by omega,fun z hz=> ?_⟩
    have hfz:f≠z:=jJj hf3 hz
    refine⟨decide (F=[]),kUb (b:=[]) (by rw[jJp hfz];exact hf3) jJg,?_⟩
    have s4:Sub G2 (gup G3 z (.lst [])):=s3.trans (.new hz)
    have hf4:gup G3 z (.lst []) f=some (.lst (jJt F)):=by rw[jJp hfz];exact hf3
    generalize gup G3 z (.lst [])=G4 at s4 hf4 ⊢
    have hfb:f≠b:=fun e=>by rw[e] at hf;obtain⟨o1,ho1⟩:=hbx.some;rw[hf] at ho1;cases ho1
    by_cases hFe:F=[]
    ·rw[if_pos (decide_eq_true hFe)]
     refine xi10 _ _ _ _ _ _ _ L Hs kvs rfl ⟨hw.skip ?_ ?_,hh,hR.sub s4,s4 _ _ hdk,(hbx.sub s4).mono (by omega),hkp.trans (.sub s4)⟩
     ·refine Nat.le_of_not_lt fun hkn'=> ?_
      obtain⟨r,r1,r2⟩:=hw.free hh (by omega)
      have:=(hFm r).mpr ⟨by omega,r2⟩
      rw[hFe] at this;cases this
     ·have q:=kQk (L:=L) (d:=5) n fun r hr=>by
       rw[<-hh.row_len hr]
       exact Nat.le_of_not_lt fun z=>by have:=(hFm r).mpr ⟨hr,z⟩;rw[hFe] at this;cases this
      have h2:=List.length_filter_le (fun x:Nat×Nat×Nat=>decide (x.1<n)) L
      have:=hw.ln
      omega
    rw[if_neg (by simpa using hFe)]
    have hF1:1<=F.length:=by
     cases hF:F with
     | nil=>exact absurd hF hFe
     | cons a F=>simp
    have pick:∀(A:List Nat) (x:Int),0<=x->x<((jJt A).length:Int)->∃r,r∈A/\L2.atI (jJt A) x=some (.int (r:Nat)):=by
     intro A x x0 x1
     have hl:x.toNat<A.length:=by simp[jJt] at x1;omega
     exact⟨A[x.toNat],List.getElem_mem hl,by rw[atZ x0];simp[jJt,hl]⟩
    have iL:(jJt F).length=F.length:=by simp[jJt]
    refine⟨_,jJm hf4,b,_,_,rfl,hbx.sub s4,by omega,by rw[iL];omega,by rw[iL];omega,fun x1 G5 x10 x11 bx5 kp5=> ?_⟩
    obtain⟨r1,hr1,ha1⟩:=pick F x1 x10 x11
    have hf5:=kp5 _ _ hfb hf4
    refine⟨_,(jJ9 hf5).trans ha1,_,jJm hf5,b,_,_,rfl,bx5,by omega,by rw[iL];omega,by rw[iL];omega,fun x2 G6 x20 x21 bx6 kp6=> ?_⟩
    obtain⟨r2,hr2,ha2⟩:=pick F x2 x20 x21
    have hf6:=kp6 _ _ hfb hf5
    have kp26:Keep b G2 G6:=(Keep.sub s4).trans (kp5.trans kp6)
    refine⟨_,(jJ9 hf6).trans ha2,?_⟩
    split
    ·rename_i hkn'
     refine⟨_,jJm hf6,?_⟩
     refine jYs (es:=F) (enc:=fun r:Nat=>T.int r) (fun r=>if r<=k then some (T.int (r:Nat)) else none) (by omega) (fun G' s=>jJm (s _ _ hf6)) ?_ ?_
     ·intro i r hr G7 K K0 s7 hK hK0
      wp_walk using 1,rLeF
      by_cases h5:r<=k
      ·rw[if_pos (by omega)]
       exact hK _ _ (by rw[if_pos h5]) (.refl _)
      ·rw[if_neg (by omega)]
       exact hK0 (by rw[if_neg h5]) _ (.refl _)
     ·intro g G7 hg hg7 s7
      obtain⟨A,hA1,hA2⟩:∃A:List Nat,F.filterMap (fun r=>if r<=k then some (T.int (r:Nat)) else none)=jJt A/\A=F.filter fun r=>decide (r<=k):=by
       refine⟨_,?_,rfl⟩
       generalize F=l
       induction l with
       | nil=>rfl
       | cons a as ih=>
        rw[List.filterMap_cons,List.filter_cons]
        by_cases h:a<=k<;>simp[h,ih,jJt]
      rw[hA1] at hg7
      have hAm:∀r,r∈A↔r∈F/\r<=k:=fun r=>by rw[hA2,List.mem_filter];simp
      have hAl:A.length<=F.length:=by rw[hA2];exact List.length_filter_le _ _
      have hA1:1<=A.length:=by
       obtain⟨r,q1,q2⟩:=hw.free hh (by omega)
       exact List.length_pos_of_mem ((hAm r).mpr ⟨(hFm r).mpr ⟨by omega,q2⟩,by omega⟩)
      have iA:(jJt A).length=A.length:=by simp[jJt]
      have hgb:g≠b:=fun e=>by rw[e] at hg;obtain⟨o1,ho1⟩:=bx6.some;rw[hg] at ho1;cases ho1
      refine⟨_,jJm hg7,b,_,_,rfl,bx6.sub s7,by omega,by rw[iA];omega,by rw[iA];omega,fun x3 G8 x30 x31 bx8 kp8=> ?_⟩
      obtain⟨r3,hr3,ha3⟩:=pick A x3 x30 x31
      refine⟨_,(jJ9 (kp8 _ _ hgb hg7)).trans ha3,?_⟩
      have h3:=(hAm r3).mp hr3
      have h3n:=(hFm r3).mp h3.1
      have:=fin r3 (k+1) G8 _ (some (.ref f)) (some (.ref g)) h3n.1 (by omega) (fun _=>by omega) bx8 (by omega) (kp26.trans ((Keep.sub s7).trans kp8))
      exact this
    ·have h1:=(hFm r1).mp hr1
     have h2:=(hFm r2).mp hr2
     exact fin r1 r2 G6 _ (some (.ref f)) v9 h1.1 h2.1 (fun _=>by omega) bx6 (by omega) kp26
  ·intro τ G2 h_;apply xe10 h_;clear h_;intro v5 v6 v7 v8 v9 v10 v12 L Hs kvs h_;apply ae6 h_;clear h_;intro hw hh hR hdk hbx hkp
   rw[jVm] at hw hbx
   refine kX6 hn2 hw hh hR hdk (by omega) (by omega) fun W G3 fW sy tw hW s3=> ?_
   exact kk W G3 fW sy tw hW ((hbx.sub s3).mono (by omega)) (hkp.trans (.sub s3))
theorem vis_sub {F:List Nat} {es:List (Nat×Nat)}:(∃E,vis F es=F++E)/\(∀e,e∈es->e.1∈vis F es)/\(∀x,x∈vis F es->x∈F\/∃e,e∈es/\e.1=x)/\(F.Nodup->(vis F es).Nodup):=by
 induction es generalizing F with
 | nil=>exact⟨⟨[],by simp[vis]⟩,by simp,fun x h=> .inl h,fun h=>h⟩
 | cons e es ih=>
  have hv:vis F (e::es)=vis (if F.contains e.1=true then F else F++[e.1]) es:=rfl
  rw[hv]
  by_cases h:F.contains e.1=true
  ·rw[if_pos h]
   obtain⟨⟨E,i1⟩,i2,i3,i4⟩:=ih (F:=F)
   refine⟨⟨E,i1⟩,fun d hd=> ?_,fun x hx=> ?_,i4⟩
   ·rcases (List.mem_cons.mp hd) with rfl | hde
    ·rw[i1];exact List.mem_append_left _ (by simpa using h)
    ·exact i2 d hde
   ·rcases i3 x hx with h | ⟨d,hd,e⟩
    ·exact .inl h
    ·exact .inr ⟨d,List.mem_cons_of_mem _ hd,e⟩
  ·rw[if_neg h]
   obtain⟨⟨E,i1⟩,i2,i3,i4⟩:=ih (F:=F++[e.1])
   refine⟨⟨e.1::E,by rw[i1];simp⟩,fun d hd=> ?_,fun x hx=> ?_,fun hn=>i4 ?_⟩
   ·rcases (List.mem_cons.mp hd) with rfl | hde
    ·rw[i1];exact List.mem_append_left _ (by simp)
    ·exact i2 d hde
   ·rcases i3 x hx with h | ⟨d,hd,e'⟩
    ·rcases (List.mem_append.mp h) with h | hs
     ·exact .inl h
     ·exact .inr ⟨e,List.mem_cons_self ..,(List.mem_singleton.mp hs).symm⟩
    ·exact .inr ⟨d,List.mem_cons_of_mem _ hd,e'⟩
   ·rw[List.nodup_append]
    exact⟨hn,by simp,fun a ha b hb=>by rw[List.mem_singleton] at hb;subst hb;rintro rfl;exact h (by simpa using ha)⟩
structure Bfs (W:Web) (k:Nat) (F:List Nat):Prop where
 nd:F.Nodup
 lt:∀x,x∈F->x<W.length
 near:∀(i x:Nat) (e:Nat×Nat),i<k->F[i]? =some x->e∈row W x->e.1∈F
theorem kYg {W:Web} {x:Nat} {e:Nat×Nat} (h:e∈row W x):∃i,en W x i=some e:=by
 unfold row at h
 cases hW:W[x]? with
 | none=>rw[hW] at h;simp at h
 | some es=>
  rw[hW] at h
  obtain⟨i,hi⟩:=List.getElem?_of_mem (show e∈es from h)
  exact⟨i,jU4 hW hi⟩
theorem Bfs.step {W:Web} (f:Fine W) {k r:Nat} {F:List Nat} (h:Bfs W k F) (hr:F[k]? =some r):Bfs W (k+1) (vis F (row W r)):=by
 obtain⟨⟨E,e1⟩,e2,e3,e4⟩:=vis_sub (F:=F) (es:=row W r)
 refine⟨e4 h.nd,fun x hx=> ?_,fun i x e hi hx he=> ?_⟩
 ·rcases e3 x hx with hx | ⟨e,he,rfl⟩
  ·exact h.lt x hx
  ·obtain⟨i,hi⟩:=kYg he
   exact f.rng _ _ e.1 e.2 hi
 ·have hkl:k<F.length:=(List.getElem?_eq_some_iff.mp hr).1
  have hx':F[i]? =some x:=by rw[e1,List.getElem?_append_left (by omega)] at hx;exact hx
  rcases Nat.lt_or_eq_of_le (Nat.le_of_lt_succ hi) with h1 | rfl
  ·rw[e1];exact List.mem_append_left _ (h.near i x e h1 hx' he)
  ·rw[hr] at hx';cases hx';exact e2 e he
theorem vis_lt {W:Web} (f:Fine W) {F:List Nat} {x:Nat} {es:List (Nat×Nat)} (hx:W[x]? =some es) (hF:∀y,y∈F->y<W.length) (j:Nat):∀y,y∈vis F (es.take j)->y<W.length:=by
 intro y hy
 rcases (vis_sub (F:=F) (es:=es.take j)).2.2.1 y hy with h | ⟨e,he,rfl⟩
 ·exact hF y h
 ·obtain⟨i,hi⟩:=List.getElem?_of_mem (List.mem_of_mem_take he)
  exact f.rng x i e.1 e.2 (jU4 hx hi)
noncomputable def jKk:Sp3:=fun xs G Q=>∃(W:Web) (r0:Nat),xs=[encW W,.int r0]/\Fine W/\r0<W.length/\∀d G' kvs,G d=none->G' d=some (.dck kvs)->kvs.map Prod.fst=(bfs W r0).map keyN->Sub G G'->Q (.ref d) G'
def jXe:List Str:=["web","room","comings","level","further","here","door","end"]
noncomputable def jKl:TS3:=
 (tSeq (tAsg (kK1 (tVar 1) (tC .non)) (jJd 2))
 (tSeq (tAsg (tLst (jJb (tVar 1) tNil)) (jJd 3))
 (tSeq (jU8 (tTru rTru (tVar 3)) (tSeq (tAsg (tLst tNil) (jJd 4))
 (tSeq (tFor (iSeq (tVar 3)) (jJd 5) (tFor (iEnT (jJb (tOp rIxF (tVar 0) (tVar 5)) tNil)) (gTup 2 (jJu (jJd 6) (jJu (jJd 7) gNil))) (tIfS (jJx (tOp jKn (tOp rIxF (tVar 7) (tC (.int 0))) (tVar 2))) (tSeq (tAsg (tTup (jJb (tVar 5) (jJb (tVar 6) tNil))) (gSub (tVar 2) (tOp rIxF (tVar 7) (tC (.int 0))) jK8))
 (jUq (tBM "list" jKx (tVar 4) (jJb (tOp rIxF (tVar 7) (tC (.int 0))) tNil)))) jJ6)))
 (tAsg (tVar 4) (jJd 3)))))
 (tRet (tVar 2)))))
theorem jUb:RdOk jKk jKl jXe:=by
 intro xs G Q h_;apply xe2 h_;clear h_;intro W r0 h_;apply ae3 h_;clear h_;intro fine hr0 kk
 show jKl _ [some (.tup (W.map encR)),some (.int r0),none,none,none,none,none,none] G
 have hs:=sz
 have hl:=fine.len
 wp_walk using 1,jKl,jU8,jJ3,kK1,iSeq,iEnT
 intro d hd
 refine⟨keyN r0,rfl,by omega,fun l hl0=> ?_⟩
 have hdl:d≠l:=jJj (jJg (G:=G) (a:=d) (o:= .dck [(keyN r0,T.non)])) hl0
 refine⟨fun m τ G'=>∃(a:Nat) (l:Addr) (v4 v5 v6 v7:Option T) (F:List Nat) (kvs:List (L2.Key×T)),τ=[some (.tup (W.map encR)),some (.int r0),some (.ref d),some (.ref l),v4,v5,v6,v7]/\d≠l/\G l=none/\G' d=some (.dck kvs)/\kvs.map Prod.fst=F.map keyN/\G' l=some (.lst (jJt (F.drop a)))/\a<=F.length/\Bfs W a F/\bfs W r0=bfsN W (W.length-a) a F/\Sub G G'/\m=W.length-a,?_,?_⟩
 ·refine⟨_,0,l,none,none,none,none,[r0],[(keyN r0,T.non)],rfl,hdl,?_,?_,rfl,jJg,Nat.zero_le _,⟨by simp,by simpa using hr0,fun i x e hi=>absurd hi (Nat.not_lt_zero _)⟩,rfl,(Sub.new hd).trans (.new hl0),rfl⟩
  ·rw[jJp hdl.symm] at hl0;exact hl0
  ·rw[jJp hdl];exact jJg
 intro m τ G1 h_;apply xe8 h_;clear h_;intro a l v4 v5 v6 v7 F kvs h_;apply ae10 h_;clear h_;intro hdl hl0 h1 hk h2 haF hB hb hs1 e9_
 subst e9_
 have hFl:=jUe hB.nd hB.lt
 wp_walk using 1,h2
 split
 ·rename_i hne
  have haF':a<F.length:=by
   rcases Nat.lt_or_ge a F.length with z | z
   ·exact z
   ·rw[List.drop_of_length_le z] at hne;simp[jJt] at hne
  refine⟨fun τ' G'=>∃(l':Addr) (v4 v5 v6 v7:Option T) (F':List Nat) (kvs':List (L2.Key×T)),τ'=[some (.tup (W.map encR)),some (.int r0),some (.ref d),some (.ref l'),v4,v5,v6,v7]/\d≠l'/\G l'=none/\G' d=some (.dck kvs')/\kvs'.map Prod.fst=F'.map keyN/\G' l'=some (.lst (jJt (F'.drop F.length)))/\F.length<=F'.length/\Bfs W F.length F'/\bfs W r0=bfsN W (W.length-F.length) F.length F'/\Sub G G',?_,by omega,fun p hp=> ?_⟩
  ·intro τ' G' h_;apply xe7 h_;clear h_;intro l' v4 v5 v6 v7 F' kvs' h_;apply ae9 h_;clear h_;intro i1 i2 i3 i4 i5 i6 i7 i8 i9
   exact⟨W.length-F.length,by omega,F.length,l',v4,v5,v6,v7,rfl,i1,i2,F',kvs',i3,i4,i5,i6,i7,i8,i9,rfl⟩
  ·have hpd:d≠p:=jJj h1 hp
   have hpl:l≠p:=jJj h2 hp
   have hp0:=kU8 hs1 hp
   refine⟨jJt (F.drop a),jJm (by rw[jJp hpl];exact h2),?_⟩
   refine⟨fun i τ G'=>∃(v5 v6 v7:Option T) (F':List Nat) (kvs':List (L2.Key×T)),τ=[some (.tup (W.map encR)),some (.int r0),some (.ref d),some (.ref l),some (.ref p),v5,v6,v7]/\G' d=some (.dck kvs')/\kvs'.map Prod.fst=F'.map keyN/\G' l=some (.lst (jJt (F.drop a)))/\G' p=some (.lst (jJt (F'.drop F.length)))/\(∃E,F'=F++E)/\Bfs W (a+i) F'/\bfs W r0=bfsN W (W.length-(a+i)) (a+i) F'/\Sub G G',?_,?_,?_,?_⟩
   ·exact⟨v5,v6,v7,F,kvs,rfl,by rw[jJp hpd];exact h1,hk,by rw[jJp hpl];exact h2,by rw[List.drop_length];exact jJg,⟨[],by simp⟩,hB,hb,hs1.trans (.new hp)⟩
   ·intro i τ G' hi h_;apply xe5 h_;clear h_;intro v5 v6 v7 F' kvs' h_;apply ae8 h_;clear h_;intro j1 jk j2 j3 jE jB jb js
    exact jJm j2
   ·intro i y τ G2 hy h_;apply xe5 h_;clear h_;intro v5 v6 v7 F' kvs' h_;apply ae8 h_;clear h_;intro j1 jk j2 j3 q4_ jB jb js
    obtain⟨E,jE⟩:=q4_
    obtain⟨x,hx,rfl⟩:=jJ5 hy
    rw[List.getElem?_drop] at hx
    have hai:a+i<F.length:=(List.getElem?_eq_some_iff.mp hx).1
    have hx':F'[a+i]? =some x:=by rw[jE,List.getElem?_append_left hai];exact hx
    have hxW:=jB.lt x (List.mem_of_getElem? hx')
    have hW:W[x]? =some W[x]:=List.getElem?_eq_getElem hxW
    generalize W[x]=es at hW
    wp_walk using 1,iEnT,jYp hW,encR,jJ3
    refine⟨fun j τ G'=>∃(v6 v7:Option T) (F2:List Nat) (kvs2:List (L2.Key×T)),τ=[some (.tup (W.map encR)),some (.int r0),some (.ref d),some (.ref l),some (.ref p),some (.int x),v6,v7]/\G' d=some (.dck kvs2)/\kvs2.map Prod.fst=F2.map keyN/\G' l=some (.lst (jJt (F.drop a)))/\G' p=some (.lst (jJt (F2.drop F.length)))/\F2=vis F' (es.take j)/\Sub G G',?_,?_,?_,?_⟩
    ·exact⟨v6,v7,F',kvs',rfl,j1,jk,j2,j3,rfl,js⟩
    ·intros;trivial
    ·intro j y τ G3 hy h_;apply xe4 h_;clear h_;intro v6 v7 F2 kvs2 h_;apply ae6 h_;clear h_;intro q1 qk q2 q3 q4 q5
     obtain⟨z,hz,rfl⟩:=jQu hy
     obtain⟨e,he,rfl⟩:=jJ5 hz
     have hF2n:F2.Nodup:=by rw[q4];exact vis_sub.2.2.2 jB.nd
     have hF2l:∀y,y∈F2->y<W.length:=by rw[q4];exact vis_lt fine hW jB.lt j
     have hF2:=jUe hF2n hF2l
     have hkl:kvs2.length=F2.length:=by have:=congrArg List.length qk;simpa using this
     have hFF:F.length<=F2.length:=by
      obtain⟨⟨E',e1⟩,_⟩:=vis_sub (F:=F') (es:=es.take j)
      rw[q4,e1,jE];simp only[List.length_append];omega
     wp_walk using 1,encE,jKn,kZa q1 qk
     by_cases hm:e.1∈F2
     ·rw[if_neg (by simp[hm])]
      exact⟨F2,kvs2,q1,qk,q2,q3,by rw[jVi he,<-q4,if_pos (by simpa using hm)],q5⟩
     ·rw[if_pos (by simp[hm])]
      wp_walk using 1,kVb q1 (show kvs2.length<sizeLine by omega)
      have hgp:gup G3 d (.dck (putT kvs2 (keyN e.1) (.tup [.int x,.int j]))) p=some (.lst (jJt (F2.drop F.length))):=by rw[jJp hpd.symm];exact q3
      refine⟨by omega,by rw[jUn hgp];trivial,_,hgp,by simp[jJt];omega,F2++[e.1],kvs2++[(keyN e.1,.tup [.int x,.int j])],?_,?_,?_,?_,?_,?_⟩
      ·rw[jJp hpd,jJg,kVm (by rw[qk,kJw];exact hm)]
      ·rw[List.map_append,List.map_append,qk];rfl
      ·rw[jJp hpl,jJp hdl.symm];exact q2
      ·rw[List.drop_append_of_le_length hFF];simp[jJt]
      ·rw[jVi he,<-q4,if_neg (by simpa using hm)]
      ·exact (q5.over hd).over hp0
    ·intro τ G3 h_;apply xe4 h_;clear h_;intro v6 v7 F2 kvs2 h_;apply ae6 h_;clear h_;intro q1 qk q2 q3 q4 q5
     rw[jKd,List.length_map,List.take_length] at q4
     obtain⟨⟨E',e1⟩,_⟩:=vis_sub (F:=F') (es:=es)
     refine⟨_,_,_,rfl,F2,kvs2,q1,qk,q2,q3,⟨E++E',by rw[q4,e1,jE,List.append_assoc]⟩,?_,?_,q5⟩
     ·have:=jB.step fine hx'
      rw[jU9 hW,<-q4] at this
      exact this
     ·rw[jb,show W.length-(a+i)=W.length-(a+(i+1))+1 by omega,jZm hx',jU9 hW,<-q4];rfl
   ·intro τ G2 h_;apply xe5 h_;clear h_;intro v5 v6 v7 F' kvs' h_;apply ae8 h_;clear h_;intro j1 jk j2 j3 q4_ jB jb js
    obtain⟨E,jE⟩:=q4_
    have hlen:(jJt (F.drop a)).length=F.length-a:=by simp[jJt]
    rw[hlen,show a+(F.length-a)=F.length by omega] at jB jb
    wp_walk using 1,tSeq
    exact⟨hpd,hp0,F',kvs',j1,jk,j3,by rw[jE,List.length_append];omega,jB,jb,js⟩
 ·rename_i hne
  have he:F.length<=a:=by
   have:jJt (F.drop a)=[]:=by simpa using hne
   have:=congrArg List.length this
   simp[jJt] at this;omega
  rw[jZn he] at hb
  exact kk d G1 kvs hd h1 (by rw[hk,hb]) hs1
def jZw:Sp3:=fun xs G Q=>∃W:Web,xs=[encW W]/\Fine W/\∀p G',G p=none->G' p=some (.lst ((jKq W).map encT))->(jKq W).length<=1000000->Sub G G'->Q (.ref p) G'
def N_ties:List Str:=["web","told","room","ends","door","end"]
noncomputable def jZ0:TS3:=
 (tSeq (tAsg (tLst tNil) (jJd 1))
 (tSeq (tFor (iEnT (jJb (tVar 0) tNil)) (gTup 2 (jJu (jJd 2) (jJu (jJd 3) gNil))) (tFor (iEnT (jJb (tVar 3) tNil)) (gTup 2 (jJu (jJd 4) (jJu (jJd 5) gNil))) (tIfS (jJx (tOp rLeF (tTup (jJb (tVar 2) (jJb (tVar 4) tNil))) (tVar 5))) (jUq (tBM "list" jKx (tVar 1) (jJb (tTup (jJb (tTup (jJb (tVar 2) (jJb (tVar 4) tNil))) (jJb (tVar 5) tNil))) tNil))) jJ6)))
 (tRet (tVar 1))))
theorem kK7:RdOk jZw jZ0 N_ties:=by
 intro xs G Q h_;apply xe1 h_;clear h_;intro W h_;apply ae2 h_;clear h_;intro fine kk
 show jZ0 _ [some (.tup (W.map encR)),none,none,none,none,none] G
 have hs:=sz
 have hl:=fine.len
 wp_walk using 1,jZ0,jJ3,iEnT
 refine⟨Nat.zero_le _,fun p hp=> ?_⟩
 let J1:Nat->St3->Gp->Prop:=fun k τ G'=>∃(v2 v3 v4 v5:Option T),τ=[some (.tup (W.map encR)),some (.ref p),v2,v3,v4,v5]/\G' p=some (.lst (((List.range k).flatMap (rowE W)).map encT))/\((List.range k).flatMap (rowE W)).length<=1000*k/\Sub G G'
 refine⟨J1,?_,?_,?_,?_⟩
 ·exact xi4 _ _ _ _ rfl ⟨jJg,Nat.zero_le _,.new hp⟩
 ·intros;trivial
 ·intro k x τ G1 hx h_;apply xe4 h_;clear h_;intro v2 v3 v4 v5 h_;apply ae3 h_;clear h_;intro h1 h2 h3
  obtain⟨z,hz,rfl⟩:=jQu hx
  obtain⟨es,hW,rfl⟩:=jJ5 hz
  have hk:k<W.length:=(List.getElem?_eq_some_iff.mp hW).1
  have hes:=fine.row k es hW
  wp_walk using 1,jJ3,iEnT,encR
  let J2:Nat->St3->Gp->Prop:=fun i τ G'=>∃(v4 v5:Option T),τ=[some (.tup (W.map encR)),some (.ref p),some (.int k),some (.tup (es.map encE)),v4,v5]/\G' p=some (.lst (((List.range k).flatMap (rowE W)++(List.range i).filterMap (jQk k es)).map encT))/\((List.range k).flatMap (rowE W)++(List.range i).filterMap (jQk k es)).length<=1000*k+i/\Sub G G'
  refine⟨J2,?_,?_,?_,?_⟩
  ·exact xi2 _ _ rfl ⟨by simpa using h1,by simpa using h2,h3⟩
  ·intros;trivial
  ·intro i x τ G2 hx h_;apply xe2 h_;clear h_;intro v4 v5 h_;apply ae3 h_;clear h_;intro i1 i2 i3
   obtain⟨z,hz,rfl⟩:=jQu hx
   obtain⟨e,hE,rfl⟩:=jJ5 hz
   have hi:i<es.length:=(List.getElem?_eq_some_iff.mp hE).1
   wp_walk using 1,rLeF,encE,jUn i1,i1
   refine⟨by omega,?_⟩
   have hle:HT.lexLe [(k:Int),(i:Int)] [(e.1:Int),(e.2:Int)]=leE (k,i) e:=rfl
   rw[hle]
   by_cases hc:leE (k,i) e=true
   ·have hcell:jQk k es i=some ((k,i),e):=by unfold jQk;rw[hE];show (if _ then _ else _)=_;rw[if_pos hc]
    rw[if_pos hc]
    refine⟨by omega,by omega,by rw[List.length_map];omega,xi2 _ _ rfl ⟨?_,?_,i3.over hp⟩⟩
    ·rw[jJg,List.range_succ,List.filterMap_append];simp[hcell,encT,encE]
    ·rw[List.range_succ,List.filterMap_append,List.length_append,List.length_append]
     rw[List.length_append] at i2
     simp[hcell] at i2 ⊢; omega
   ·have hcell:jQk k es i=none:=by unfold jQk;rw[hE];show (if _ then _ else _)=_;rw[if_neg hc]
    rw[if_neg hc]
    refine xi2 _ _ rfl ⟨?_,?_,i3⟩
    ·rw[List.range_succ,List.filterMap_append];simp[hcell];simpa using i1
    ·rw[List.range_succ,List.filterMap_append];simp[hcell];simp at i2;omega
  ·intro τ G' h_;apply xe2 h_;clear h_;intro v4 v5 h_;apply ae3 h_;clear h_;intro i1 i2 i3
   rw[jK2,List.length_map] at i1 i2
   have e1:(List.range (k+1)).flatMap (rowE W)=(List.range k).flatMap (rowE W)++(List.range es.length).filterMap (jQk k es):=by
    rw[List.range_succ,List.flatMap_append]
    congr 1
    simp[rowE,hW]
   exact xi4 _ _ _ _ rfl ⟨by rw[e1];exact i1,by rw[e1];omega,i3⟩
 ·intro τ G1 h_;apply xe4 h_;clear h_;intro v2 v3 v4 v5 h_;apply ae3 h_;clear h_;intro h1 h2 h3
  rw[jK2,List.length_map] at h1 h2
  wp_walk using 1,tSeq
  exact kk p G1 hp h1 (by show ((List.range W.length).flatMap (rowE W)).length<=_;omega) h3
def jQ9:Sp3:=fun xs G Q=>∃W:Web,xs=[encW W]/\Fine W/\∀p G',G p=none->G' p=some (.lst ((jKq W).map encT))->(jKq W).length<=1000000->Sub G G'->Q (.ref p) G'
def kXk:List Str:=["_law_web_here","_law_found","_law_room","_law_doors","_law_door","_law_end"]
noncomputable def jV1:TS3:=
 (tSeq (tAsg (tLst tNil) (jJd 1))
 (tSeq (tFor (iEnT (jJb (tVar 0) tNil)) (gTup 2 (jJu (jJd 2) (jJu (jJd 3) gNil))) (tFor (iEnT (jJb (tVar 3) tNil)) (gTup 2 (jJu (jJd 4) (jJu (jJd 5) gNil))) (tIfS (jJx (tOp rLeF (tTup (jJb (tVar 2) (jJb (tVar 4) tNil))) (tVar 5))) (jUq (tBM "list" jKx (tVar 1) (jJb (tTup (jJb (tTup (jJb (tVar 2) (jJb (tVar 4) tNil))) (jJb (tVar 5) tNil))) tNil))) jJ6)))
 (tRet (tVar 1))))
theorem jZy:RdOk jQ9 jV1 kXk:=by
 intro xs G Q h_;apply xe1 h_;clear h_;intro W h_;apply ae2 h_;clear h_;intro fine kk
 show jV1 _ [some (.tup (W.map encR)),none,none,none,none,none] G
 have hs:=sz
 have hl:=fine.len
 wp_walk using 1,jV1,jJ3,iEnT
 refine⟨Nat.zero_le _,fun p hp=> ?_⟩
 let J1:Nat->St3->Gp->Prop:=fun k τ G'=>∃(v2 v3 v4 v5:Option T),τ=[some (.tup (W.map encR)),some (.ref p),v2,v3,v4,v5]/\G' p=some (.lst (((List.range k).flatMap (rowE W)).map encT))/\((List.range k).flatMap (rowE W)).length<=1000*k/\Sub G G'
 refine⟨J1,?_,?_,?_,?_⟩
 ·exact xi4 _ _ _ _ rfl ⟨jJg,Nat.zero_le _,.new hp⟩
 ·intros;trivial
 ·intro k x τ G1 hx h_;apply xe4 h_;clear h_;intro v2 v3 v4 v5 h_;apply ae3 h_;clear h_;intro h1 h2 h3
  obtain⟨z,hz,rfl⟩:=jQu hx
  obtain⟨es,hW,rfl⟩:=jJ5 hz
  have hk:k<W.length:=(List.getElem?_eq_some_iff.mp hW).1
  have hes:=fine.row k es hW
  wp_walk using 1,jJ3,iEnT,encR
  let J2:Nat->St3->Gp->Prop:=fun i τ G'=>∃(v4 v5:Option T),τ=[some (.tup (W.map encR)),some (.ref p),some (.int k),some (.tup (es.map encE)),v4,v5]/\G' p=some (.lst (((List.range k).flatMap (rowE W)++(List.range i).filterMap (jQk k es)).map encT))/\((List.range k).flatMap (rowE W)++(List.range i).filterMap (jQk k es)).length<=1000*k+i/\Sub G G'
  refine⟨J2,?_,?_,?_,?_⟩
  ·exact xi2 _ _ rfl ⟨by simpa using h1,by simpa using h2,h3⟩
  ·intros;trivial
  ·intro i x τ G2 hx h_;apply xe2 h_;clear h_;intro v4 v5 h_;apply ae3 h_;clear h_;intro i1 i2 i3
   obtain⟨z,hz,rfl⟩:=jQu hx
   obtain⟨e,hE,rfl⟩:=jJ5 hz
   have hi:i<es.length:=(List.getElem?_eq_some_iff.mp hE).1
   wp_walk using 1,rLeF,encE,jUn i1,i1
   refine⟨by omega,?_⟩
   have hle:HT.lexLe [(k:Int),(i:Int)] [(e.1:Int),(e.2:Int)]=leE (k,i) e:=rfl
   rw[hle]
   by_cases hc:leE (k,i) e=true
   ·have hcell:jQk k es i=some ((k,i),e):=by unfold jQk;rw[hE];show (if _ then _ else _)=_;rw[if_pos hc]
    rw[if_pos hc]
    refine⟨by omega,by omega,by rw[List.length_map];omega,xi2 _ _ rfl ⟨?_,?_,i3.over hp⟩⟩
    ·rw[jJg,List.range_succ,List.filterMap_append];simp[hcell,encT,encE]
    ·rw[List.range_succ,List.filterMap_append,List.length_append,List.length_append]
     rw[List.length_append] at i2
     simp[hcell] at i2 ⊢; omega
   ·have hcell:jQk k es i=none:=by unfold jQk;rw[hE];show (if _ then _ else _)=_;rw[if_neg hc]
    rw[if_neg hc]
    refine xi2 _ _ rfl ⟨?_,?_,i3⟩
    ·rw[List.range_succ,List.filterMap_append];simp[hcell];simpa using i1
    ·rw[List.range_succ,List.filterMap_append];simp[hcell];simp at i2;omega
  ·intro τ G' h_;apply xe2 h_;clear h_;intro v4 v5 h_;apply ae3 h_;clear h_;intro i1 i2 i3
   rw[jK2,List.length_map] at i1 i2
   have e1:(List.range (k+1)).flatMap (rowE W)=(List.range k).flatMap (rowE W)++(List.range es.length).filterMap (jQk k es):=by
    rw[List.range_succ,List.flatMap_append]
    congr 1
    simp[rowE,hW]
   exact xi4 _ _ _ _ rfl ⟨by rw[e1];exact i1,by rw[e1];omega,i3⟩
 ·intro τ G1 h_;apply xe4 h_;clear h_;intro v2 v3 v4 v5 h_;apply ae3 h_;clear h_;intro h1 h2 h3
  rw[jK2,List.length_map] at h1 h2
  wp_walk using 1,tSeq
  exact kk p G1 hp h1 (by show ((List.range W.length).flatMap (rowE W)).length<=_;omega) h3
theorem en_put {U:Web} {x i:Nat} {ts:List (Nat×Nat)} {v:Nat×Nat} (h:U[x]? =some ts) (hi:i<ts.length) (x' i':Nat):en (U.set x (ts.set i v)) x' i'=if x'=x/\i'=i then some v else en U x' i':=by
 have hxl:=(List.getElem?_eq_some_iff.mp h).1
 unfold en
 by_cases hx:x'=x
 ·subst hx
  rw[List.getElem?_set_self hxl,h,Option.bind_some,Option.bind_some]
  by_cases hi':i'=i
  ·subst hi';rw[if_pos ⟨rfl,rfl⟩,List.getElem?_set_self hi]
  ·rw[if_neg fun z=>hi' z.2,List.getElem?_set_ne (Ne.symm hi')]
 ·rw[if_neg fun z=>hx z.1,List.getElem?_set_ne (Ne.symm hx)]
theorem jVu {xs ys:List T} {G:Gp} {Q:VK3} (h:xs.length+ys.length<=sizeLine) (q:Q (.tup (xs++ys)) G):jYg (.tup xs) (.tup ys) G Q:=by
 cases xs with
 | nil=>exact .inr ⟨ys,rfl,rfl,q⟩
 | cons c xs=>exact .inl ⟨.val (.tup (c::xs++ys)),by have:xs.length+1+ys.length<=sizeLine:=h;simp[addR,this],q⟩
theorem kX3 {i j:Int} {G:Gp} {Q:VK3} (q:Q (.int (i+j)) G):jYg (.int i) (.int j) G Q:= .inl ⟨.val (.int (i+j)),rfl,q⟩
theorem cut_to {xs:List T} {c:Nat}:cutT xs none (some (c:Int))=xs.take c:=by
 unfold cutT
 rw[HT.sIx_none,HT.sIx_nat,List.drop_zero,Nat.sub_zero]
 by_cases h:c<=xs.length
 ·rw[Nat.min_eq_left h]
 ·rw[Nat.min_eq_right (by omega),List.take_of_length_le (Nat.le_refl _),List.take_of_length_le (by omega)]
theorem jYr {xs:List T} {c:Nat}:cutT xs (some (c:Int)) none=xs.drop c:=by
 unfold cutT
 rw[HT.sIx_none,HT.sIx_nat]
 by_cases h:c<=xs.length
 ·rw[Nat.min_eq_left h,List.take_of_length_le (by rw[List.length_drop];exact Nat.le_refl _)]
 ·rw[Nat.min_eq_right (by omega)];simp;omega
theorem kQi {α:Type} {xs:List α} {i:Nat} {v:α} (h:i<xs.length):xs.take i++[v]++xs.drop (i+1)=xs.set i v:=by
 rw[List.set_eq_take_append_cons_drop,if_pos h];simp
def pt (W:Web) (a e:Nat×Nat):Web:=W.set a.1 ((row W a.1).set a.2 e)
def Dr (W:Web) (a:Nat×Nat):Prop:=∃f,en W a.1 a.2=some f
theorem Dr.at {W:Web} {a:Nat×Nat} (h:Dr W a):W[a.1]? =some (row W a.1)/\a.2<(row W a.1).length/\a.1<W.length:=by
 obtain⟨f,h⟩:=h
 obtain⟨es,h1,h2⟩:=jK4 h
 rw[jU9 h1]
 exact⟨h1,(List.getElem?_eq_some_iff.mp h2).1,(List.getElem?_eq_some_iff.mp h1).1⟩
theorem kYk {W:Web} {a e:Nat×Nat} (h:Dr W a) (x i:Nat):en (pt W a e) x i=if x=a.1/\i=a.2 then some e else en W x i:=en_put h.at.1 h.at.2.1 x i
theorem Dr.pt {W:Web} {a b e:Nat×Nat} (h:Dr W b) (ha:Dr W a):Dr (pt W a e) b:=by
 unfold Dr;rw[kYk ha]
 split
 ·exact⟨e,rfl⟩
 ·exact h
theorem jXq {W:Web} {a e:Nat×Nat}:(pt W a e).length=W.length:=by unfold pt;rw[List.length_set]
theorem Fine.pt {W:Web} {a e:Nat×Nat} (f:Fine W) (ha:Dr W a) (he:e.1<W.length):Fine (pt W a e) where
 len:=by rw[jXq];exact f.len
 row:=fun r es h=>by
  have h:(W.set a.1 ((_root_.W.row W a.1).set a.2 e))[r]? =some es:=h
  by_cases hr:r=a.1
  ·subst hr
   rw[List.getElem?_set_self ha.at.2.2] at h;cases h
   rw[List.length_set];exact f.row _ _ ha.at.1
  ·rw[List.getElem?_set_ne (Ne.symm hr)] at h;exact f.row _ _ h
 rng:=fun r i s j h=>by
  rw[jXq]
  rw[kYk ha] at h
  split at h
  ·cases h;exact he
  ·exact f.rng _ _ _ _ h
def jQg:Sp3:=fun xs G Q=>∃(W:Web) (a e:Nat×Nat),xs=[encW W,encE a,encE e]/\Fine W/\Dr W a/\∀G',Sub G G'->Q (encW (pt W a e)) G'
def kKu:List Str:=["web","start","end","ends","changed"]
noncomputable def jQ7:TS3:=
 (tSeq (tAsg (tOp rIxF (tVar 0) (tOp rIxF (tVar 1) (tC (.int 0)))) (jJd 3))
 (tSeq (tAsg (tOp jYg (tOp jYg (tSl rSlF (tVar 3) jUp (jVx (tOp rIxF (tVar 1) (tC (.int 1))))) (tTup (jJb (tVar 2) tNil))) (tSl rSlF (tVar 3) (jVx (tOp jYg (tOp rIxF (tVar 1) (tC (.int 1))) (tC (.int 1)))) jUp)) (jJd 4))
 (tRet (tOp jYg (tOp jYg (tSl rSlF (tVar 0) jUp (jVx (tOp rIxF (tVar 1) (tC (.int 0))))) (tTup (jJb (tVar 4) tNil))) (tSl rSlF (tVar 0) (jVx (tOp jYg (tOp rIxF (tVar 1) (tC (.int 0))) (tC (.int 1)))) jUp)))))
theorem jYa:RdOk jQg jQ7 kKu:=by
 intro xs G Q h_;apply xe3 h_;clear h_;intro W a e h_;apply ae3 h_;clear h_;intro fine hd kk
 show jQ7 _ [some (.tup (W.map encR)),some (encE a),some (encE e),none,none] G
 have hs:=sz
 have hl:=fine.len
 obtain⟨h1,h2,h3⟩:=hd.at
 have h4:=fine.row _ _ h1
 wp_walk using 1,jQ7,tSl,rSlF,slR,jUp,jVx,encE,encR,jYp h1,cut_to,jYr
 have er:T.tup (((row W a.1).map encE).take a.2++[T.tup [.int (e.1:Nat),.int (e.2:Nat)]]++((row W a.1).map encE).drop (a.2+1))=encR ((row W a.1).set a.2 e):=by
  rw[kQi (by rw[List.length_map];exact h2),encR,List.map_set];rfl
 have ew:T.tup ((W.map encR).take a.1++[encR ((row W a.1).set a.2 e)]++(W.map encR).drop (a.1+1))=encW (pt W a e):=by
  rw[kQi (by rw[List.length_map];exact h3),encW,pt,List.map_set]
 refine⟨by omega,jVu (by simp;omega) (kX3 ⟨_,rfl,?_⟩)⟩
 rw[show (a.2:Int)+1=((a.2+1:Nat):Int) by omega,jYr]
 refine jVu (by simp;omega) ⟨by omega,?_⟩
 rw[er]
 refine jVu (by simp;omega) (kX3 ⟨_,rfl,?_⟩)
 rw[show (a.1:Int)+1=((a.1+1:Nat):Int) by omega,jYr]
 refine jVu (by simp;omega) ?_
 rw[ew]
 exact kk G (.refl _)
def tie2 (W:Web) (p q:Nat×Nat):Web:=pt (pt W p q) q p
def jQf:Sp3:=fun xs G Q=>∃(W:Web) (p q:Nat×Nat),xs=[encW W,encE p,encE q]/\Fine W/\Dr W p/\Dr W q/\∀G',Sub G G'->Q (encW (tie2 W p q)) G'
def kKt:List Str:=["web","one","other"]
noncomputable def jQ6:TS3:=
 (tRet (jJz jQg (jJb (jJz jQg (jJb (tVar 0) (jJb (tVar 1) (jJb (tVar 2) tNil)))) (jJb (tVar 2) (jJb (tVar 1) tNil)))))
theorem jX9:RdOk jQf jQ6 kKt:=by
 intro xs G Q h_;apply xe3 h_;clear h_;intro W p q h_;apply ae4 h_;clear h_;intro fine hp hq kk
 show jQ6 _ [some (encW W),some (encE p),some (encE q)] G
 wp_walk using 1,jQ6
 exact⟨W,p,q,rfl,fine,hp,fun G1 s1=>⟨_,q,p,rfl,fine.pt hp hq.at.2.2,hq.pt hp,fun G2 s2=>kk G2 (s1.trans s2)⟩⟩
theorem kJn {W:Web} {p q:Nat×Nat}:(tie2 W p q).length=W.length:=by unfold tie2;rw[jXq,jXq]
theorem Fine.tie2 {W:Web} {p q:Nat×Nat} (f:Fine W) (hp:Dr W p) (hq:Dr W q):Fine (tie2 W p q):=(f.pt hp hq.at.2.2).pt (hq.pt hp) (by rw[jXq];exact hp.at.2.2)
theorem Dr.tie2 {W:Web} {p q a:Nat×Nat} (h:Dr W a) (hp:Dr W p) (hq:Dr W q):Dr (tie2 W p q) a:=(h.pt hp).pt (hq.pt hp)
def fo (s:Tie) (ab:Nat):Nat×Nat:=if ab=0 then s.1 else s.2
def la (s:Tie) (ab:Nat):Nat×Nat:=if ab=0 then s.2 else s.1
def crs (W:Web) (f s:Tie) (ab:Nat):Web:=tie2 (tie2 W f.1 (la s ab)) (fo s ab) f.2
def dueT (W:Web) (f s:Tie) (ab:Nat):T:=if decide (f.1=f.2)=decide (s.1=s.2)/\(bfs (crs W f s ab) 0).length=W.length then encW (crs W f s ab) else .non
structure Two (W:Web) (f s:Tie) (ab:Nat):Prop where
 fine:Fine W
 w1:1<=W.length
 f1:Dr W f.1
 f2:Dr W f.2
 s1:Dr W s.1
 s2:Dr W s.2
 ab:ab<=1
theorem Two.fo {W:Web} {f s:Tie} {ab:Nat} (h:Two W f s ab):Dr W (fo s ab):=by
 show Dr W (if ab=0 then s.1 else s.2)
 split;exact h.s1;exact h.s2
theorem Two.la {W:Web} {f s:Tie} {ab:Nat} (h:Two W f s ab):Dr W (la s ab):=by
 show Dr W (if ab=0 then s.2 else s.1)
 split;exact h.s2;exact h.s1
theorem Two.crs {W:Web} {f s:Tie} {ab:Nat} (h:Two W f s ab):Fine (crs W f s ab):=(h.fine.tie2 h.f1 h.la).tie2 (h.fo.tie2 h.f1 h.la) (h.f2.tie2 h.f1 h.la)
theorem kJc {W:Web} {f s:Tie} {ab:Nat}:(crs W f s ab).length=W.length:=by unfold crs;rw[kJn,kJn]
theorem kUd {G:Gp} {a b:Bool}:eqG G (.bl a) (.bl b)=some (decide (a=b)):=by
 rw[show eqG G (.bl a) (.bl b)=some (eqT (.bl a) (.bl b)) from rfl];cases a<;>cases b<;>rfl
def jUt:Sp3:=fun xs G Q=>∃(W:Web) (f s:Tie) (ab:Nat),xs=[encW W,encT f,encT s,.int ab]/\Two W f s ab/\∀G',Sub G G'->Q (dueT W f s ab) G'
def kUw:List Str:=["web","first","second","about","former","latter","told"]
noncomputable def jUx:TS3:=
 (tSeq (tIfS (jJx (tOp rNeA (tOp rEqA (tOp rIxF (tVar 1) (tC (.int 0))) (tOp rIxF (tVar 1) (tC (.int 1)))) (tOp rEqA (tOp rIxF (tVar 2) (tC (.int 0))) (tOp rIxF (tVar 2) (tC (.int 1)))))) (tRet (tC .non)) jJ6)
 (tSeq (tAsg (tOp rIxF (tVar 2) (tVar 3)) (jJd 4))
 (tSeq (tAsg (tOp rIxF (tVar 2) (tOp rSub (tC (.int 1)) (tVar 3))) (jJd 5))
 (tSeq (tAsg (jJz jQf (jJb (jJz jQf (jJb (tVar 0) (jJb (tOp rIxF (tVar 1) (tC (.int 0))) (jJb (tVar 5) tNil)))) (jJb (tVar 4) (jJb (tOp rIxF (tVar 1) (tC (.int 1))) tNil)))) (jJd 6))
 (tRet (tIf (jJx (tOp rEqA (tCB kVk (jJb (jJz jKk (jJb (tVar 6) (jJb (tC (.int 0)) tNil))) tNil)) (tCB kVk (jJb (tVar 6) tNil)))) (tVar 6) (tC .non)))))))
theorem jY1:RdOk jUt jUx kUw:=by
 intro xs G Q h_;apply xe4 h_;clear h_;intro W f s ab h_;apply ae2 h_;clear h_;intro tw kk
 show jUx _ [some (encW W),some (encT f),some (encT s),some (.int ab),none,none,none] G
 have hs:=sz
 obtain⟨f1,f2⟩:=f
 obtain⟨s1,s2⟩:=s
 have a1:L2.atI [encE s1,encE s2] (ab:Int)=some (encE (fo (s1,s2) ab)):=by
  have:=tw.ab
  rcases (by omega:ab=0\/ab=1) with rfl | rfl<;>rfl
 have a2:L2.atI [encE s1,encE s2] (1-(ab:Int))=some (encE (la (s1,s2) ab)):=by
  have:=tw.ab
  rcases (by omega:ab=0\/ab=1) with rfl | rfl<;>rfl
 wp_walk using 1,jUx,rEqA,rNeA,kVk,encT,a1,a2
 refine⟨_,jYo,_,jYo,_,kUd,?_⟩
 by_cases he:decide (f1=f2)=decide (s1=s2)
 ·rw[if_neg (by rw[decide_eq_true he];decide)]
  refine⟨W,f1,_,rfl,tw.fine,tw.f1,tw.la,fun G1 q1=>⟨_,_,_,rfl,tw.fine.tie2 tw.f1 tw.la,tw.fo.tie2 tw.f1 tw.la,tw.f2.tie2 tw.f1 tw.la,fun G2 q2=>⟨crs W (f1,f2) (s1,s2) ab,0,rfl,tw.crs,by rw[kJc];exact tw.w1,fun d G3 kvs hd hG3 hk q3=> ?_⟩⟩⟩
  have hkl:kvs.length=(bfs (crs W (f1,f2) (s1,s2) ab) 0).length:=by
   have:=congrArg List.length hk
   rw[List.length_map,List.length_map] at this;exact this
  have hlen:lenG G3 (.ref d)=some kvs.length:=by simp only[lenG,hG3]
  have hlen2:lenG G3 (encW (crs W (f1,f2) (s1,s2) ab))=some W.length:=by show some ((crs W (f1,f2) (s1,s2) ab).map encR).length=_;rw[List.length_map,kJc]
  refine⟨_,hlen,_,hlen2,_,jZ7,?_⟩
  have q4:=(q1.trans q2).trans q3
  unfold dueT at kk
  by_cases hb:kvs.length=W.length
  ·rw[if_pos ⟨he,by rw[<-hkl];exact hb⟩] at kk
   rw[if_pos (decide_eq_true hb)]
   exact kk G3 q4
  ·rw[if_neg fun z=>hb (by rw[hkl];exact z.2)] at kk
   rw[if_neg (by simpa using hb)]
   exact kk G3 q4
 ·rw[if_pos (by rw[decide_eq_false he])]
  unfold dueT at kk
  rw[if_neg fun z=>he z.1] at kk
  exact kk G (.refl _)
theorem kJl {W:Web} {i j ab:Nat} {f s:Tie} (fine:Fine W) (sym:Sym W) (h1:1<=W.length) (hi:(jKq W)[i]? =some f) (hj:(jKq W)[j]? =some s) (ha:ab<=1):Two W f s ab:=by
 have e1:=(kKz hi).1
 have e2:=(kKz hj).1
 exact⟨fine,h1,⟨_,e1⟩,⟨_,sym _ _ _ _ e1⟩,⟨_,e2⟩,⟨_,sym _ _ _ _ e2⟩,ha⟩
structure Asked (W:Web) (i j ab:Nat) (f s:Tie):Prop where
 fine:Fine W
 sym:Sym W
 w1:1<=W.length
 hi:(jKq W)[i]? =some f
 hj:(jKq W)[j]? =some s
 ab:ab<=1
noncomputable def jK7:SpX:=fun xs G Q R=>∃(W:Web) (i j ab:Nat) (f s:Tie),xs=[encW W,.int i,.int j,.int ab]/\Asked W i j ab f s/\(jU1 (dueT W f s ab)=false->∀G',Sub G G'->Q (dueT W f s ab) G')/\(jU1 (dueT W f s ab)=true->∀G',Sub G G'->R "NoWeb" G')
theorem jY7:kXm jK7:=by
 rintro xs G Q Q' R R' hQ hR ⟨W,i,j,ab,f,s,h1,h2,h3,h4⟩
 exact⟨W,i,j,ab,f,s,h1,h2,fun o G' s=>hQ _ _ (h3 o G' s),fun o G' s=>hR _ _ (h4 o G' s)⟩
theorem kJm {W:Web} {i:Nat} {f:Tie} (h:(jKq W)[i]? =some f):L2.atI ((jKq W).map encT) (i:Int)=some (encT f):=by rw[atN];simp[h]
def kUv:List Str:=["web","one","other","about","known","told"]
noncomputable def jUw (R:XK3):TS3:=
 (tSeq (tAsg (jJz jZw (jJb (tVar 0) tNil)) (jJd 4))
 (tSeq (tAsg (jJz jUt (jJb (tVar 0) (jJb (tOp rIxF (tVar 4) (tVar 1)) (jJb (tOp rIxF (tVar 4) (tVar 2)) (jJb (tVar 3) tNil))))) (jJd 5))
 (tSeq (tIfS (jJx (tOp rIsN (tVar 5) (tC .non))) (jZv R "NoWeb") jJ6)
 (tRet (tVar 5)))))
theorem jY0:∀xs G Q R,jK7 xs G Q R->jUw R {nx:=fun _ G'=>Q .non G',rt:=Q} (jKu kUv xs) G:=by
 intro xs G Q R h_;apply xe6 h_;clear h_;intro W i j ab f s h_;apply ae3 h_;clear h_;intro as kk kr
 show jUw _ _ [some (encW W),some (.int i),some (.int j),some (.int ab),none,none] G
 wp_walk using 1,jUw,jZv
 refine⟨W,rfl,as.fine,fun p G1 hp hG1 _ q1=> ?_⟩
 wp_walk using 1,jJ9 hG1,kJm as.hi,kJm as.hj
 refine⟨W,f,s,ab,rfl,kJl as.fine as.sym as.w1 as.hi as.hj as.ab,fun G2 q2=> ?_⟩
 have key:if jU1 (dueT W f s ab)=true then R "NoWeb" G2 else Q (dueT W f s ab) G2:=by
  split
  ·rename_i hn;exact kr hn G2 (q1.trans q2)
  ·rename_i hn;exact kk (by simpa using hn) G2 (q1.trans q2)
 exact key
theorem kJ4 {G:Gp} {p q:Addr} {xs ys:List T} {Q:VK3} (h1:G p=some (.lst xs)) (h2:G q=some (.lst ys)) (hz:xs.length+ys.length<=sizeLine) (k:∀r,G r=none->Q (.ref r) (gup G r (.lst (xs++ys)))):∃r,addR G (.ref p) (.ref q)=some r/\fin3 r G Q:=
 ⟨.newL (xs++ys),by simp only[addR,h1,h2];rw[if_pos hz],k⟩
def jQo:Sp3:=fun xs G Q=>∃a:Addr,xs=[.ref a,.int 0]/\G a=some (.exc "NoWeb")/\∀G',Sub G G'->Q (.bl true) G'
def kJh:List Str:=["_law_error","_law_place","_law_fits_some"]
noncomputable def jQr:TS3:=
 (tSeq (tAsg (tLst (jJb (jVy [("NoWeb",true)] (tVar 0)) (jJb (jVy [("NoWeb",false)] (tVar 0)) (jJb (jVy [("NoWeb",false)] (tVar 0)) tNil)))) (jJd 2))
 (tSeq (tAsg (tOp jJ4 (tVar 2) (tLst (jJb (jVy [("NoWeb",false)] (tVar 0)) (jJb (jVy [("NoWeb",false)] (tVar 0)) (jJb (jVy [("NoWeb",false)] (tVar 0)) tNil))))) (jJd 2))
 (tSeq (tAsg (tOp jJ4 (tVar 2) (tLst (jJb (jVy [("NoWeb",false)] (tVar 0)) (jJb (jVy [("NoWeb",false)] (tVar 0)) tNil)))) (jJd 2))
 (tRet (jVz (jVy [("NoWeb",true)] (tVar 0)) (jVz (tOp rEqA (tBM "list" kXt (tVar 2) (jJb (tC (.bl true)) tNil)) (tC (.int 1))) (tOp rIxF (tVar 2) (tVar 1))))))))
theorem jXh:RdOk jQo jQr kJh:=by
 intro xs G Q h_;apply xe1 h_;clear h_;intro a h_;apply ae2 h_;clear h_;intro ha kk
 show jQr _ [some (.ref a),some (.int 0),none] G
 have hs:=sz
 have mt:(("NoWeb":Str),true)∈[(("NoWeb":Str),true)]:=List.mem_singleton.mpr rfl
 have mf:(("NoWeb":Str),false)∈[(("NoWeb":Str),false)]:=List.mem_singleton.mpr rfl
 wp_walk using 1,jQr,jVy,rEqA,ha
 refine⟨_,rfl,true,mt,_,rfl,false,mf,_,rfl,false,mf,by omega,fun p hp=> ?_⟩
 have hap:a≠p:=jJj ha hp
 simp only[jJp hap,ha]
 refine⟨_,rfl,false,mf,_,rfl,false,mf,_,rfl,false,mf,by omega,fun q hq=> ?_⟩
 have hpq:p≠q:=jJj jJg hq
 have ha1:gup G p (GO.lst [T.bl true,T.bl false,T.bl false]) a=some (.exc "NoWeb"):=by rw[jJp hap];exact ha
 have ha2:gup (gup G p (GO.lst [T.bl true,T.bl false,T.bl false])) q (GO.lst [T.bl false,T.bl false,T.bl false]) a=some (.exc "NoWeb"):=by rw[jJp (jJj ha1 hq)];exact ha1
 have s2:Sub G (gup (gup G p (GO.lst [T.bl true,T.bl false,T.bl false])) q (GO.lst [T.bl false,T.bl false,T.bl false])):=(Sub.new hp).trans (.new hq)
 refine kJ4 (xs:=[.bl true,.bl false,.bl false]) (ys:=[.bl false,.bl false,.bl false]) (by rw[jJp hpq];exact jJg) jJg (by decide) fun r hr=> ?_
 generalize gup (gup G p (GO.lst [T.bl true,T.bl false,T.bl false])) q (GO.lst [T.bl false,T.bl false,T.bl false])=G2 at ha2 s2 hr ⊢
 have ha3:∀L,gup G2 r L a=some (.exc "NoWeb"):=fun L=>by rw[jJp (jJj ha2 hr)];exact ha2
 refine⟨_,ha3 _,false,mf,_,ha3 _,false,mf,by omega,fun u hu=> ?_⟩
 have hru:r≠u:=jJj jJg hu
 have ha4:∀L,gup (gup G2 r (.lst ([.bl true,.bl false,.bl false]++[.bl false,.bl false,.bl false]))) u L a=some (.exc "NoWeb"):=fun L=>by rw[jJp (jJj (ha3 _) hu)];exact ha3 _
 refine kJ4 (xs:=[.bl true,.bl false,.bl false,.bl false,.bl false,.bl false]) (ys:=[.bl false,.bl false]) (by rw[jJp hru];exact jJg) jJg (by decide) fun v hv=> ?_
 have s5:=((s2.trans (.new hr)).trans (.new hu)).trans (Sub.new (o:= .lst ([.bl true,.bl false,.bl false,.bl false,.bl false,.bl false]++[.bl false,.bl false])) hv)
 refine⟨_,by rw[jJp (jJj (ha4 _) hv)];exact ha4 _,true,mt,?_⟩
 generalize gup (gup G2 r (.lst ([.bl true,.bl false,.bl false]++[.bl false,.bl false,.bl false]))) u (.lst [.bl false,.bl false])=G5 at *
 rw[if_pos rfl,kKv]
 refine⟨trivial,v,_,_,rfl,rfl,jJg,rfl,rfl,?_⟩
 refine⟨true,rfl,?_⟩
 rw[if_pos rfl]
 refine⟨.bl true,(jJ9 jJg).trans rfl,kk _ s5⟩
noncomputable def kJi:List Str:=["_law_web_here","_law_first","_law_second","_law_about","_law_former","_law_latter","_law_ends","_law_room","_law_doors","_law_door","_law_end","_law_one","_law_other","_law_made","_law_come_to","_law_at"]
noncomputable def jQs:TS3:=
 (tSeq (tIfS (jJx (tOp rNeA (tOp rEqA (tOp rIxF (tVar 1) (tC (.int 0))) (tOp rIxF (tVar 1) (tC (.int 1)))) (tOp rEqA (tOp rIxF (tVar 2) (tC (.int 0))) (tOp rIxF (tVar 2) (tC (.int 1)))))) (tRet (tC .non)) jJ6)
 (tSeq (tAsg (tVar 2) (gTup 2 (jJu (jJd 4) (jJu (jJd 5) gNil))))
 (tSeq (tIfS (jJx (tOp rEqA (tVar 3) (tC (.int 1)))) (tPar 4 5 (jJb (tVar 5) (jJb (tVar 4) tNil))) jJ6)
 (tSeq (tAsg jKt (jJd 6))
 (tSeq (tFor (iEnT (jJb (tVar 0) tNil)) (gTup 2 (jJu (jJd 7) (jJu (jJd 8) gNil))) (tFor (iEnT (jJb (tVar 8) tNil)) (gTup 2 (jJu (jJd 9) (jJu (jJd 10) gNil))) (tAsg (tVar 10) (gSub (tVar 6) (tTup (jJb (tVar 7) (jJb (tVar 9) tNil))) jK8))))
 (tSeq (tFor (iSeq (tLst (jJb (tTup (jJb (tOp rIxF (tVar 1) (tC (.int 0))) (jJb (tVar 5) tNil))) (jJb (tTup (jJb (tVar 4) (jJb (tOp rIxF (tVar 1) (tC (.int 1))) tNil))) tNil)))) (gTup 2 (jJu (jJd 11) (jJu (jJd 12) gNil))) (tSeq (tAsg (tVar 12) (gSub (tVar 6) (tVar 11) jK8))
 (tAsg (tVar 11) (gSub (tVar 6) (tVar 12) jK8))))
 (tSeq (tAsg (tCB jJ0 (jJb (jKh [false,false,false,false,false,false,false,true,false,false,false,false,false,false,false,false] (jKe (jJb (tCB rLen (jJb (tVar 0) tNil)) tNil)) (jJd 7) jK6 (tCB jJ0 (jJb (jKh [false,false,false,false,false,false,false,false,false,true,false,false,false,false,false,false] (jKe (jJb (tCB rLen (jJb (tOp rIxF (tVar 0) (tVar 7)) tNil)) tNil)) (jJd 9) jK6 (tOp rIxF (tVar 6) (tTup (jJb (tVar 7) (jJb (tVar 9) tNil))))) tNil))) tNil)) (jJd 13))
 (tSeq (tAsg (tLst (jJb (tC (.int 0)) tNil)) (jJd 14))
 (tSeq (tAsg (tC (.int 0)) (jJd 15))
 (tSeq (jU8 (jJx (tOp rLt (tVar 15) (tCB rLen (jJb (tVar 14) tNil)))) (tSeq (tFor (iSeq (tOp rIxF (tVar 13) (tOp rIxF (tVar 14) (tVar 15)))) (gTup 2 (jJu (jJd 7) (jJu (jJd 9) gNil))) (tIfS (jJx (tOp jKn (tVar 7) (tVar 14))) (jUq (tBM "list" jKx (tVar 14) (jJb (tVar 7) tNil))) jJ6))
 (tAsg (tOp jJ4 (tVar 15) (tC (.int 1))) (jJd 15))))
 (tRet (tIf (jJx (tOp rEqA (tCB rLen (jJb (tVar 14) tNil)) (tCB rLen (jJb (tVar 0) tNil)))) (tVar 13) (tC .non)))))))))))))
noncomputable def kQd:TS3:=(tSeq (tAsg jKt (jJd 6))
 (tSeq (tFor (iEnT (jJb (tVar 0) tNil)) (gTup 2 (jJu (jJd 7) (jJu (jJd 8) gNil))) (tFor (iEnT (jJb (tVar 8) tNil)) (gTup 2 (jJu (jJd 9) (jJu (jJd 10) gNil))) (tAsg (tVar 10) (gSub (tVar 6) (tTup (jJb (tVar 7) (jJb (tVar 9) tNil))) jK8))))
 (tSeq (tFor (iSeq (tLst (jJb (tTup (jJb (tOp rIxF (tVar 1) (tC (.int 0))) (jJb (tVar 5) tNil))) (jJb (tTup (jJb (tVar 4) (jJb (tOp rIxF (tVar 1) (tC (.int 1))) tNil))) tNil)))) (gTup 2 (jJu (jJd 11) (jJu (jJd 12) gNil))) (tSeq (tAsg (tVar 12) (gSub (tVar 6) (tVar 11) jK8))
 (tAsg (tVar 11) (gSub (tVar 6) (tVar 12) jK8))))
 (tSeq (tAsg (tCB jJ0 (jJb (jKh [false,false,false,false,false,false,false,true,false,false,false,false,false,false,false,false] (jKe (jJb (tCB rLen (jJb (tVar 0) tNil)) tNil)) (jJd 7) jK6 (tCB jJ0 (jJb (jKh [false,false,false,false,false,false,false,false,false,true,false,false,false,false,false,false] (jKe (jJb (tCB rLen (jJb (tOp rIxF (tVar 0) (tVar 7)) tNil)) tNil)) (jJd 9) jK6 (tOp rIxF (tVar 6) (tTup (jJb (tVar 7) (jJb (tVar 9) tNil))))) tNil))) tNil)) (jJd 13))
 (tSeq (tAsg (tLst (jJb (tC (.int 0)) tNil)) (jJd 14))
 (tSeq (tAsg (tC (.int 0)) (jJd 15))
 (tSeq (jU8 (jJx (tOp rLt (tVar 15) (tCB rLen (jJb (tVar 14) tNil)))) (tSeq (tFor (iSeq (tOp rIxF (tVar 13) (tOp rIxF (tVar 14) (tVar 15)))) (gTup 2 (jJu (jJd 7) (jJu (jJd 9) gNil))) (tIfS (jJx (tOp jKn (tVar 7) (tVar 14))) (jUq (tBM "list" jKx (tVar 14) (jJb (tVar 7) tNil))) jJ6))
 (tAsg (tOp jJ4 (tVar 15) (tC (.int 1))) (jJd 15))))
 (tRet (tIf (jJx (tOp rEqA (tCB rLen (jJb (tVar 14) tNil)) (tCB rLen (jJb (tVar 0) tNil)))) (tVar 13) (tC .non))))))))))
noncomputable def kQb:TS3:=(tSeq (tAsg (tCB jJ0 (jJb (jKh [false,false,false,false,false,false,false,true,false,false,false,false,false,false,false,false] (jKe (jJb (tCB rLen (jJb (tVar 0) tNil)) tNil)) (jJd 7) jK6 (tCB jJ0 (jJb (jKh [false,false,false,false,false,false,false,false,false,true,false,false,false,false,false,false] (jKe (jJb (tCB rLen (jJb (tOp rIxF (tVar 0) (tVar 7)) tNil)) tNil)) (jJd 9) jK6 (tOp rIxF (tVar 6) (tTup (jJb (tVar 7) (jJb (tVar 9) tNil))))) tNil))) tNil)) (jJd 13))
 (tSeq (tAsg (tLst (jJb (tC (.int 0)) tNil)) (jJd 14))
 (tSeq (tAsg (tC (.int 0)) (jJd 15))
 (tSeq (jU8 (jJx (tOp rLt (tVar 15) (tCB rLen (jJb (tVar 14) tNil)))) (tSeq (tFor (iSeq (tOp rIxF (tVar 13) (tOp rIxF (tVar 14) (tVar 15)))) (gTup 2 (jJu (jJd 7) (jJu (jJd 9) gNil))) (tIfS (jJx (tOp jKn (tVar 7) (tVar 14))) (jUq (tBM "list" jKx (tVar 14) (jJb (tVar 7) tNil))) jJ6))
 (tAsg (tOp jJ4 (tVar 15) (tC (.int 1))) (jJd 15))))
 (tRet (tIf (jJx (tOp rEqA (tCB rLen (jJb (tVar 14) tNil)) (tCB rLen (jJb (tVar 0) tNil)))) (tVar 13) (tC .non)))))))
noncomputable def kK9:TS3:=(tSeq (tAsg (tLst (jJb (tC (.int 0)) tNil)) (jJd 14))
 (tSeq (tAsg (tC (.int 0)) (jJd 15))
 (tSeq (jU8 (jJx (tOp rLt (tVar 15) (tCB rLen (jJb (tVar 14) tNil)))) (tSeq (tFor (iSeq (tOp rIxF (tVar 13) (tOp rIxF (tVar 14) (tVar 15)))) (gTup 2 (jJu (jJd 7) (jJu (jJd 9) gNil))) (tIfS (jJx (tOp jKn (tVar 7) (tVar 14))) (jUq (tBM "list" jKx (tVar 14) (jJb (tVar 7) tNil))) jJ6))
 (tAsg (tOp jJ4 (tVar 15) (tC (.int 1))) (jJd 15))))
 (tRet (tIf (jJx (tOp rEqA (tCB rLen (jJb (tVar 14) tNil)) (tCB rLen (jJb (tVar 0) tNil)))) (tVar 13) (tC .non))))))
theorem kVg:jQs=tSeq (tIfS (jJx (tOp rNeA (tOp rEqA (tOp rIxF (tVar 1) (tC (.int 0))) (tOp rIxF (tVar 1) (tC (.int 1)))) (tOp rEqA (tOp rIxF (tVar 2) (tC (.int 0))) (tOp rIxF (tVar 2) (tC (.int 1)))))) (tRet (tC .non)) jJ6) (tSeq (tAsg (tVar 2) (gTup 2 (jJu (jJd 4) (jJu (jJd 5) gNil)))) (tSeq (tIfS (jJx (tOp rEqA (tVar 3) (tC (.int 1)))) (tPar 4 5 (jJb (tVar 5) (jJb (tVar 4) tNil))) jJ6) kQd)):=rfl
theorem kQc:kQd=tSeq (tAsg jKt (jJd 6)) (tSeq (tFor (iEnT (jJb (tVar 0) tNil)) (gTup 2 (jJu (jJd 7) (jJu (jJd 8) gNil))) (tFor (iEnT (jJb (tVar 8) tNil)) (gTup 2 (jJu (jJd 9) (jJu (jJd 10) gNil))) (tAsg (tVar 10) (gSub (tVar 6) (tTup (jJb (tVar 7) (jJb (tVar 9) tNil))) jK8)))) (tSeq (tFor (iSeq (tLst (jJb (tTup (jJb (tOp rIxF (tVar 1) (tC (.int 0))) (jJb (tVar 5) tNil))) (jJb (tTup (jJb (tVar 4) (jJb (tOp rIxF (tVar 1) (tC (.int 1))) tNil))) tNil)))) (gTup 2 (jJu (jJd 11) (jJu (jJd 12) gNil))) (tSeq (tAsg (tVar 12) (gSub (tVar 6) (tVar 11) jK8))
 (tAsg (tVar 11) (gSub (tVar 6) (tVar 12) jK8)))) kQb)):=rfl
theorem kQa:kQb=tSeq (tAsg (tCB jJ0 (jJb (jKh [false,false,false,false,false,false,false,true,false,false,false,false,false,false,false,false] (jKe (jJb (tCB rLen (jJb (tVar 0) tNil)) tNil)) (jJd 7) jK6 (tCB jJ0 (jJb (jKh [false,false,false,false,false,false,false,false,false,true,false,false,false,false,false,false] (jKe (jJb (tCB rLen (jJb (tOp rIxF (tVar 0) (tVar 7)) tNil)) tNil)) (jJd 9) jK6 (tOp rIxF (tVar 6) (tTup (jJb (tVar 7) (jJb (tVar 9) tNil))))) tNil))) tNil)) (jJd 13)) kK9:=rfl
theorem kZn {W V:Web} {v1 v2 v3 v4 v5 v6 v7 v8 v9 v10 v11 v12:Option T} {G:Gp} {Q:VK3} (fine:Fine V) (hl0:V.length=W.length) (hr0:0<V.length) (kk:∀G',Sub G G'->Q (if (bfs V 0).length=W.length then encW V else .non) G'):
  kK9 {nx:=fun _ G'=>Q .non G',rt:=Q} [some (.tup (W.map encR)),v1,v2,v3,v4,v5,v6,v7,v8,v9,v10,v11,v12,some (.tup (V.map encR)),none,none] G:=by
 have hs:=sz
 have hl:=fine.len
 wp_walk using 1,kK9,jU8,jJ3
 refine⟨by omega,fun p hp=> ?_⟩
 refine⟨fun m τ G'=>∃(at':Nat) (v7 v9:Option T) (F:List Nat),τ=[some (.tup (W.map encR)),v1,v2,v3,v4,v5,v6,v7,v8,v9,v10,v11,v12,some (.tup (V.map encR)),some (.ref p),some (.int at')]/\G' p=some (.lst (jJt F))/\Found V 0 F/\Sub G G'/\bfs V 0=bfsN V (V.length-at') at' F/\m=V.length-at',⟨_,0,v7,v9,[0],rfl,jJg,⟨by simp,by simpa using hr0,fun S h0 _ x hx=>by rw[List.mem_singleton] at hx;rw[hx];exact h0⟩,.new hp,rfl,rfl⟩,?_⟩
 intro m τ G1 h_;apply xe4 h_;clear h_;intro at' v7 v9 F h_;apply ae5 h_;clear h_;intro h1 h2 h3 hB e4_
 subst e4_
 wp_walk using 1,iSeq,jJm h1,jJ9 h1
 have hFl:=jUe h2.nd h2.lt
 split
 ·rename_i hc
  have hat:at'<F.length:=by rw[jJt,List.length_map] at hc;omega
  have hF:F[at']? =some F[at']:=List.getElem?_eq_getElem hat
  have hfm:F[at']∈F:=List.getElem_mem hat
  generalize F[at']=r at hF hfm
  have hrW:=h2.lt r hfm
  have hW:V[r]? =some V[r]:=List.getElem?_eq_getElem hrW
  generalize V[r]=es at hW
  have hatI:L2.atI (jJt F) (at':Int)=some (.int r):=by rw[atN];simp[jJt,hF]
  wp_walk using 1,hatI,jYp hW,encR
  refine⟨fun τ G'=>∃(v7 v9:Option T) (F:List Nat),τ=[some (.tup (W.map encR)),v1,v2,v3,v4,v5,v6,v7,v8,v9,v10,v11,v12,some (.tup (V.map encR)),some (.ref p),some (.int ((at'+1:Nat):Int))]/\G' p=some (.lst (jJt F))/\Found V 0 F/\Sub G G'/\bfs V 0=bfsN V (V.length-(at'+1)) (at'+1) F,?_,?_⟩
  ·intro τ' G' h_;apply xe3 h_;clear h_;intro v7 v9 F' h_;apply ae4 h_;clear h_;intro i1 i2 i3 iB
   exact⟨V.length-(at'+1),by omega,at'+1,v7,v9,rfl,F',i1,i2,i3,iB,rfl⟩
  ·refine⟨fun j τ G'=>∃(v7 v9:Option T) (F':List Nat),τ=[some (.tup (W.map encR)),v1,v2,v3,v4,v5,v6,v7,v8,v9,v10,v11,v12,some (.tup (V.map encR)),some (.ref p),some (.int at')]/\G' p=some (.lst (jJt F'))/\r∈F'/\Found V 0 F'/\Sub G G'/\F'=vis F (es.take j),?_,?_,?_,?_⟩
   ·exact⟨v7,v9,F,rfl,h1,hfm,h2,h3,rfl⟩
   ·intros;trivial
   ·intro j x τ G2 hx0 h_;apply xe3 h_;clear h_;intro v7 v9 F0 h_;apply ae5 h_;clear h_;intro i1 i2 i3 i4 iB
    obtain⟨⟨s,t⟩,hx,rfl⟩:=jJ5 hx0
    have hen:=jU4 hW hx
    wp_walk using 1,encE,jKn,kV8 i1,jUn i1,i1
    by_cases hm:s∈F0
    ·rw[if_neg (by simp[hm])]
     exact⟨F0,rfl,i2,i3,i4,by rw[jVi hx,<-iB,if_pos (by simpa using hm)]⟩
    ·rw[if_pos (by simp[hm])]
     have hFl:=jUe i3.nd i3.lt
     refine⟨by rw[jJt,List.length_map];omega,F0++[s],by simp[jJt],List.mem_append_left _ i2,⟨?_,?_,?_⟩,i4.over hp,by rw[jVi hx,<-iB,if_neg (by simpa using hm)]⟩
     ·rw[List.nodup_append];exact⟨i3.nd,by simp,fun a ha b hb=>by rw[List.mem_singleton] at hb;subst hb;rintro rfl;exact hm ha⟩
     ·intro x hx
      rw[List.mem_append,List.mem_singleton] at hx
      rcases hx with hx | rfl
      ·exact i3.lt x hx
      ·exact fine.rng _ _ _ _ hen
     ·intro S h0 hc x hx
      rw[List.mem_append,List.mem_singleton] at hx
      rcases hx with hx | rfl
      ·exact i3.got S h0 hc x hx
      ·exact hc _ _ _ _ (i3.got S h0 hc r i2) hen
   ·intro τ G' h_;apply xe3 h_;clear h_;intro v7 v9 F0 h_;apply ae5 h_;clear h_;intro i1 i2 i3 i4 iB
    wp_walk using 1,tSeq
    refine⟨by simp,F0,i1,i3,i4,?_⟩
    rw[List.length_map,List.take_length] at iB
    rw[hB,show V.length-at'=V.length-(at'+1)+1 by omega,jZm hF,jU9 hW,<-iB]
 ·rename_i hc
  have hF:F=bfs V 0:=by rw[hB,jZn (by rw[jJt,List.length_map] at hc;omega)]
  wp_walk using 1,rEqA,jJm h1
  have hle:(jJt F).length=(bfs V 0).length:=by rw[jJt,List.length_map,hF]
  rw[hle,List.length_map]
  refine⟨_,jZ7,?_⟩
  have kk:=kk G1 h3
  by_cases hb:(bfs V 0).length=W.length
  ·rw[if_pos (decide_eq_true hb)]
   rw[if_pos hb] at kk;exact kk
  ·rw[if_neg (by simpa using hb)]
   rw[if_neg hb] at kk;exact kk
def Ag (V:Web) (kvs:List (L2.TKey×T)):Prop:=∀r i e,en V r i=some e->valT kvs (keyE (r,i))=some (encE e)
theorem Ag.put {V:Web} {kvs:List (L2.TKey×T)} {a e:Nat×Nat} (h:Ag V kvs) (ha:Dr V a):Ag (pt V a e) (putT kvs (keyE a) (encE e)):=by
 intro r i f hf
 rw[kYk ha] at hf
 rw[jQw]
 by_cases z:r=a.1/\i=a.2
 ·rw[if_pos z] at hf;cases hf
  rw[if_pos (by rw[z.1,z.2])]
 ·rw[if_neg z] at hf
  rw[if_neg fun w=>z (by have:=jYk w;rw[this];exact⟨rfl,rfl⟩)]
  exact h r i f hf
structure Shp (W V:Web):Prop where
 len:V.length=W.length
 rl:∀r,(row V r).length=(row W r).length
theorem Shp.pt {W V:Web} {a e:Nat×Nat} (h:Shp W V) (ha:Dr V a):Shp W (pt V a e) where
 len:=by rw[jXq];exact h.len
 rl:=fun r=>by
  rw[<-h.rl r]
  show (((V.set a.1 ((row V a.1).set a.2 e))[r]?).getD []).length=_
  by_cases hr:r=a.1
  ·subst hr
   rw[List.getElem?_set_self ha.at.2.2,Option.getD_some,List.length_set]
  ·rw[List.getElem?_set_ne (Ne.symm hr)];rfl
theorem Shp.tie2 {W V:Web} {p q:Nat×Nat} (h:Shp W V) (hp:Dr V p) (hq:Dr V q):Shp W (tie2 V p q):=(h.pt hp).pt (hq.pt hp)
theorem kZo {W V:Web} {v1 v2 v3 v4 v5 v7 v8 v9 v10 v11 v12:Option T} {p:Addr} {kvs:List (L2.TKey×T)} {G:Gp} {Q:VK3} (fW:Fine W) (fine:Fine V) (sh:Shp W V) (hr0:0<V.length) (hp:G p=some (.dct kvs)) (ag:Ag V kvs) (kk:∀G',Sub G G'->Q (if (bfs V 0).length=W.length then encW V else .non) G'):
  kQb {nx:=fun _ G'=>Q .non G',rt:=Q} [some (.tup (W.map encR)),v1,v2,v3,v4,v5,some (.ref p),v7,v8,v9,v10,v11,v12,none,none,none] G:=by
 have hs:=sz
 have hl:=fW.len
 rw[kQa]
 wp_walk using 1,jKe,List.length_map
 refine⟨by omega,by omega,?_⟩
 rw[show ((W.length:Nat):Int).toNat=W.length by omega,jUa]
 refine jVs (es:=List.range W.length) (enc:=fun r:Nat=>T.int r) (fun r=>encR (row V r)) (by simp;omega) (fun _ _=>trivial) ?_ ?_
 ·intro i r hr G1 K K0 s1 hK
  obtain⟨q1,q2⟩:=List.getElem?_eq_some_iff.mp hr
  simp at q1 q2;subst q2
  have hW:W[i]? =some (row W i):=by rw[row,List.getElem?_eq_getElem q1];rfl
  have hV:V[i]? =some (row V i):=by rw[row,List.getElem?_eq_getElem (by rw[sh.len];exact q1)];rfl
  have hrl:=fW.row _ _ hW
  wp_walk using 1,jYp hW,encR,jKe,List.length_map
  refine⟨by omega,by omega,?_⟩
  rw[show (((row W i).length:Nat):Int).toNat=(row W i).length by omega,jUa]
  refine jVs (es:=List.range (row W i).length) (enc:=fun r:Nat=>T.int r) (fun j=>encE (((row V i)[j]?).getD (0,0))) (by simp;omega) (fun _ _=>trivial) ?_ ?_
  ·intro j x hx G2 K2 K3 s2 hK2
   obtain⟨q3,q4⟩:=List.getElem?_eq_some_iff.mp hx
   simp at q3 q4;subst q4
   have hj:j<(row V i).length:=by rw[sh.rl];exact q3
   have hv:(row V i)[j]? =some (row V i)[j]:=List.getElem?_eq_getElem hj
   have:=ag i j _ (jU4 hV hv)
   wp_walk using 1,tSeq
   refine⟨by omega,_,jZ5 (s2 _ _ (s1 _ _ hp)) (ks:=keyE (i,j)) rfl this,?_⟩
   have h2:=hK2 G2 (.refl _)
   rw[hv] at h2;exact h2
  ·intro D G2 hD hD2 s2
   refine⟨_,jJm hD2,?_⟩
   have e1:(List.range (row W i).length).map (fun j=>encE (((row V i)[j]?).getD (0,0)))=(row V i).map encE:=by
    rw[<-sh.rl]
    apply List.ext_getElem?
    intro j
    by_cases hj:j<(row V i).length
    ·rw[List.getElem?_map,List.getElem?_range hj,List.getElem?_map,List.getElem?_eq_getElem hj];simp[hj]
    ·rw[List.getElem?_eq_none (by simp;omega),List.getElem?_eq_none (by simp;omega)]
   rw[e1]
   exact hK G2 s2
 ·intro D G1 hD hD1 s1
  refine⟨_,jJm hD1,?_⟩
  have e1:(List.range W.length).map (fun r=>encR (row V r))=V.map encR:=by
   rw[<-sh.len]
   apply List.ext_getElem?
   intro j
   by_cases hj:j<V.length
   ·have hv:V[j]? =some (row V j):=by
     show _=some ((V[j]?).getD [])
     rw[List.getElem?_eq_getElem hj];rfl
    rw[List.getElem?_map,List.getElem?_range hj,List.getElem?_map,hv];rfl
   ·rw[List.getElem?_eq_none (by simp;omega),List.getElem?_eq_none (by simp;omega)]
  rw[e1]
  exact kZn fine sh.len hr0 fun G' s=>kk G' (s1.trans s)
def jQp:Sp3:=fun xs G Q=>∃(W:Web) (f s:Tie) (ab:Nat),xs=[encW W,encT f,encT s,.int ab]/\Two W f s ab/\∀G',Sub G G'->Q (dueT W f s ab) G'
def webK (W:Web) (f s:Tie) (ab:Nat):Nat->Web
 | 0=>W
 | 1=>tie2 W f.1 (la s ab)
 | _=>crs W f s ab
theorem kZp {W:Web} {f1 f2 s1 s2:Nat×Nat} {ab:Nat} {G:Gp} {Q:VK3} (tw:Two W (f1,f2) (s1,s2) ab) (kk:∀G',Sub G G'->Q (if (bfs (crs W (f1,f2) (s1,s2) ab) 0).length=W.length then encW (crs W (f1,f2) (s1,s2) ab) else .non) G'):
  kQd {nx:=fun _ G'=>Q .non G',rt:=Q} [some (.tup (W.map encR)),some (.tup [encE f1,encE f2]),some (.tup [encE s1,encE s2]),some (.int ab),some (encE (fo (s1,s2) ab)),some (encE (la (s1,s2) ab)),none,none,none,none,none,none,none,none,none,none] G:=by
 have hs:=sz
 have fine:=tw.fine
 have hl:=fine.len
 rw[kQc]
 wp_walk using 1,jKt,jJ3,iEnT
 refine .inl fun p hp=> ?_
 let J1:Nat->St3->Gp->Prop:=fun r τ G'=>∃(v7 v8 v9 v10:Option T) (kvs:List (L2.TKey×T)),τ=[some (.tup (W.map encR)),some (.tup [encE f1,encE f2]),some (.tup [encE s1,encE s2]),some (.int ab),some (encE (fo (s1,s2) ab)),some (encE (la (s1,s2) ab)),some (.ref p),v7,v8,v9,v10,none,none,none,none,none]/\G' p=some (.dct kvs)/\kvs.length<=1000*r/\(∀r' i e,r'<r->en W r' i=some e->valT kvs (keyE (r',i))=some (encE e))/\Sub G G'
 refine⟨J1,?_,?_,?_,?_⟩
 ·exact xi5 _ _ _ _ [] rfl ⟨jJg,Nat.zero_le _,fun r i e h=>absurd h (Nat.not_lt_zero _),.new hp⟩
 ·intros;trivial
 ·intro r y τ G1 hy h_;apply xe5 h_;clear h_;intro v7 v8 v9 v10 kvs h_;apply ae4 h_;clear h_;intro h1 h2 h3 h4
  obtain⟨z,hz,rfl⟩:=jQu hy
  obtain⟨es,hW,rfl⟩:=jJ5 hz
  have hr:r<W.length:=(List.getElem?_eq_some_iff.mp hW).1
  have hes:=fine.row r es hW
  wp_walk using 1,jJ3,iEnT,encR
  let J2:Nat->St3->Gp->Prop:=fun i τ G'=>∃(v9 v10:Option T) (kvs:List (L2.TKey×T)),τ=[some (.tup (W.map encR)),some (.tup [encE f1,encE f2]),some (.tup [encE s1,encE s2]),some (.int ab),some (encE (fo (s1,s2) ab)),some (encE (la (s1,s2) ab)),some (.ref p),some (.int r),some (.tup (es.map encE)),v9,v10,none,none,none,none,none]/\G' p=some (.dct kvs)/\kvs.length<=1000*r+i/\(∀r' i' e,r'<r\/(r'=r/\i'<i)->en W r' i'=some e->valT kvs (keyE (r',i'))=some (encE e))/\Sub G G'
  refine⟨J2,?_,?_,?_,?_⟩
  ·exact xi3 _ _ kvs rfl ⟨h1,h2,fun r' i' e h=>h3 r' i' e (by omega),h4⟩
  ·intros;trivial
  ·intro i y τ G2 hy h_;apply xe3 h_;clear h_;intro v9 v10 kvs h_;apply ae4 h_;clear h_;intro i1 i2 i3 i4
   obtain⟨z,hz,rfl⟩:=jQu hy
   obtain⟨e,hE,rfl⟩:=jJ5 hz
   have hi:i<es.length:=(List.getElem?_eq_some_iff.mp hE).1
   wp_walk using 1,tSeq
   refine⟨by omega,_,jVl i1 (ks:=keyE (r,i)) rfl (by omega),xi3 _ _ (putT kvs (keyE (r,i)) (encE e)) rfl ⟨jJg,by have:=jUc kvs (keyE (r,i)) (encE e);omega,fun r' i' e' hh he=> ?_,i4.over hp⟩⟩
   rw[jQw]
   by_cases z:keyE (r,i)=keyE (r',i')
   ·rw[if_pos z]
    cases jYk z
    rw[jU4 hW hE] at he;cases he;rfl
   ·rw[if_neg z]
    refine i3 r' i' e' ?_ he
    rcases hh with hh | ⟨rfl,hh⟩
    ·exact .inl hh
    ·refine .inr ⟨rfl,?_⟩
     have:i'≠i:=fun w=>z (by rw[w])
     omega
  ·intro τ G2 h_;apply xe3 h_;clear h_;intro v9 v10 kvs h_;apply ae4 h_;clear h_;intro i1 i2 i3 i4
   rw[jK2,List.length_map] at i2 i3
   refine xi5 _ _ _ _ kvs rfl ⟨i1,by omega,fun r' i e h he=>i3 r' i e ?_ he,i4⟩
   by_cases z:r'=r
   ·subst z
    obtain⟨es',q1,q2⟩:=jK4 he
    rw[hW] at q1;cases q1
    exact .inr ⟨rfl,(List.getElem?_eq_some_iff.mp q2).1⟩
   ·exact .inl (by omega)
 ·intro τ G1 h_;apply xe5 h_;clear h_;intro v7 v8 v9 v10 kvs h_;apply ae4 h_;clear h_;intro h1 h2 h3 h4
  rw[jK2,List.length_map] at h2 h3
  have ag:Ag W kvs:=fun r i e he=>h3 r i e (en_lt he) he
  wp_walk using 1,jJ3,iSeq
  refine⟨by omega,by omega,by omega,fun q hq=> ?_⟩
  have hpq:p≠q:=jJj h1 hq
  let items:List T:=[.tup [encE f1,encE (la (s1,s2) ab)],.tup [encE (fo (s1,s2) ab),encE f2]]
  let J3:Nat->St3->Gp->Prop:=fun k τ G'=>∃(v11 v12:Option T) (kvs:List (L2.TKey×T)),τ=[some (.tup (W.map encR)),some (.tup [encE f1,encE f2]),some (.tup [encE s1,encE s2]),some (.int ab),some (encE (fo (s1,s2) ab)),some (encE (la (s1,s2) ab)),some (.ref p),v7,v8,v9,v10,v11,v12,none,none,none]/\G' p=some (.dct kvs)/\kvs.length<=1000000+2*k/\Ag (webK W (f1,f2) (s1,s2) ab k) kvs/\Sub G G'/\G' q=some (.lst items)
  have step:∀(k:Nat) (V V':Web) (a b:Nat×Nat) G2 (kvs:List (L2.TKey×T)) (v11 v12:Option T),V=webK W (f1,f2) (s1,s2) ab k->webK W (f1,f2) (s1,s2) ab (k+1)=tie2 V a b->k<2->Dr V a->Dr V b->G2 p=some (.dct kvs)->kvs.length<=1000000+2*k->Ag V kvs->Sub G G2->G2 q=some (.lst items)->
    ∃G',setR G2 (.ref p) (encE a) (encE b)=some G'/\∃G'',setR G' (.ref p) (encE b) (encE a)=some G''/\J3 (k+1) [some (.tup (W.map encR)),some (.tup [encE f1,encE f2]),some (.tup [encE s1,encE s2]),some (.int ab),some (encE (fo (s1,s2) ab)),some (encE (la (s1,s2) ab)),some (.ref p),v7,v8,v9,v10,some (encE a),some (encE b),none,none,none] G'':=by
   intro k V V' a b G2 kvs v11 v12 eV eV' hk ha hb g1 g2 g3 g4 g5
   have l1:=jUc kvs (keyE a) (encE b)
   have l2:=jUc (putT kvs (keyE a) (encE b)) (keyE b) (encE a)
   refine⟨_,jVl g1 (ks:=keyE a) rfl (by omega),_,jVl jJg (ks:=keyE b) rfl (by omega),?_⟩
   refine xi3 _ _ _ rfl ⟨jJg,by omega,?_,(g4.over hp).over hp,by rw[jJp hpq.symm,jJp hpq.symm];exact g5⟩
   rw[eV']
   exact (g3.put ha).put (hb.pt ha)
  refine⟨J3,?_,?_,?_,?_⟩
  ·exact xi3 _ _ kvs rfl ⟨by rw[jJp hpq];exact h1,by omega,ag,h4.trans (.new hq),jJg⟩
  ·intro k τ G' hk h_;apply xe3 h_;clear h_;intro v11 v12 kvs h_;apply ae5 h_;clear h_;intro g1 g2 g3 g4 g5
   exact jJm g5
  ·intro k y τ G2 hy h_;apply xe3 h_;clear h_;intro v11 v12 kvs h_;apply ae5 h_;clear h_;intro g1 g2 g3 g4 g5
   have hk:k<2:=(List.getElem?_eq_some_iff.mp hy).1
   rcases (by omega:k=0\/k=1) with rfl | rfl
   ·cases hy
    have:=step 0 W W f1 (la (s1,s2) ab) G2 kvs v11 v12 rfl rfl (by decide) tw.f1 tw.la g1 g2 g3 g4 g5
    wp_walk using 1,tSeq
    exact this
   ·cases hy
    have:=step 1 _ W (fo (s1,s2) ab) f2 G2 kvs v11 v12 rfl rfl (by decide) (tw.fo.tie2 tw.f1 tw.la) (tw.f2.tie2 tw.f1 tw.la) g1 g2 g3 g4 g5
    wp_walk using 1,tSeq
    exact this
  ·intro τ G2 h_;apply xe3 h_;clear h_;intro v11 v12 kvs h_;apply ae5 h_;clear h_;intro g1 g2 g3 g4 g5
   refine kZo fine tw.crs ?_ (by rw[kJc];exact tw.w1) g1 g3 fun G' s=>kk G' (g4.trans s)
   have s0:Shp W W:=⟨rfl,fun _=>rfl⟩
   exact (s0.tie2 tw.f1 tw.la).tie2 (tw.fo.tie2 tw.f1 tw.la) (tw.f2.tie2 tw.f1 tw.la)
theorem jXi:RdOk jQp jQs kJi:=by
 intro xs G Q h_;apply xe4 h_;clear h_;intro W f s ab h_;apply ae2 h_;clear h_;intro tw kk
 obtain⟨f1,f2⟩:=f
 obtain⟨s1,s2⟩:=s
 show jQs _ [some (.tup (W.map encR)),some (.tup [encE f1,encE f2]),some (.tup [encE s1,encE s2]),some (.int ab),none,none,none,none,none,none,none,none,none,none,none,none] G
 rw[kVg]
 wp_walk using 1,rEqA,rNeA
 refine⟨_,jYo,_,jYo,_,kUd,?_⟩
 unfold dueT at kk
 by_cases he:decide (f1=f2)=decide (s1=s2)
 ·rw[if_neg (by rw[decide_eq_true he];decide)]
  have:=kZp (G:=G) (Q:=Q) tw fun G' s=>by
   have:=kk G' s
   by_cases hb:(bfs (crs W (f1,f2) (s1,s2) ab) 0).length=W.length
   ·rw[if_pos ⟨he,hb⟩] at this;rw[if_pos hb];exact this
   ·rw[if_neg fun z=>hb z.2] at this;rw[if_neg hb];exact this
  refine⟨_,jZ7 (c:=1),?_⟩
  have hab:=tw.ab
  rcases (by omega:ab=0\/ab=1) with rfl | rfl
  ·rw[if_neg (by decide)];exact this
  ·rw[if_pos (by decide)]
   wp_walk using 1,tPar
   exact this
 ·rw[if_pos (by rw[decide_eq_false he])]
  rw[if_neg fun z=>he z.1] at kk
  exact kk G (.refl _)
abbrev jV0:Sp3:=jXf 3
theorem pl_web {W:Web} (f:Fine W):PlN 3 (encW W):=by
 refine .inr ⟨_,rfl,by have:=f.len;rw[List.length_map];omega,fun u hu=> ?_⟩
 obtain⟨es,hes,rfl⟩:=List.mem_map.mp hu
 obtain⟨r,hr⟩:=List.getElem?_of_mem hes
 refine .inr ⟨_,rfl,by have:=f.row r es hr;rw[List.length_map];omega,fun u hu=> ?_⟩
 obtain⟨e,_,rfl⟩:=List.mem_map.mp hu
 refine .inr ⟨_,rfl,by simp,fun u hu=> ?_⟩
 simp only[List.not_mem_nil,List.mem_cons,or_false] at hu
 rcases hu with rfl | rfl<;>exact pl_int
theorem due_or {W:Web} {f s:Tie} {ab:Nat} (tw:Two W f s ab):dueT W f s ab= .non\/∃V,dueT W f s ab=encW V/\Fine V:=by
 unfold dueT
 split
 ·exact .inr ⟨_,rfl,tw.crs⟩
 ·exact .inl rfl
def jUr:Sp3:=fun xs G Q=>∃(W:Web) (i j ab:Nat) (f s:Tie),xs=[encW W,.int i,.int j,.int ab]/\Asked W i j ab f s/\∀G',Sub G G'->Q (.bl true) G'
def kUt:List Str:=["_law_web_here","_law_one","_law_other","_law_about","_law_some","_law_due","_law_caught","_law_found","_law_error"]
noncomputable def jUu:TS3:=
 (tSeq (tAsg (jJz jQ9 (jJb (tVar 0) tNil)) (jJd 4))
 (tSeq (tAsg (jJz jQp (jJb (tVar 0) (jJb (tOp rIxF (tVar 4) (tVar 1)) (jJb (tOp rIxF (tVar 4) (tVar 2)) (jJb (tVar 3) tNil))))) (jJd 5))
 (tSeq (tAsg (tC .non) (jJd 6))
 (tSeq (tAsg (tC .non) (jJd 7))
 (tSeq (tTry 8 ["NoWeb"] (kX8 (kX9 jK7 (jJb (tVar 0) (jJb (tVar 1) (jJb (tVar 2) (jJb (tVar 3) tNil))))) 7) (tAsg (tVar 8) (jJd 6)))
 (tSeq (tIfS (jJx (tOp rIsN (tVar 5) (tC .non))) (tRet (jVz (tOp rNotN (tVar 6) (tC .non)) (jJz jQo (jJb (tVar 6) (jJb (tC (.int 0)) tNil))))) jJ6)
 (tRet (jVz (tOp rIsN (tVar 6) (tC .non)) (jJz jV0 (jJb (tVar 7) (jJb (tVar 5) tNil)))))))))))
theorem jYy:RdOk jUr jUu kUt:=by
 intro xs G Q h_;apply xe6 h_;clear h_;intro W i j ab f s h_;apply ae2 h_;clear h_;intro as kk
 show jUu _ [some (encW W),some (.int i),some (.int j),some (.int ab),none,none,none,none,none] G
 have tw:=kJl as.fine as.sym as.w1 as.hi as.hj as.ab
 wp_walk using 1,jUu,tTry,kX8,kX9
 refine⟨W,rfl,as.fine,fun p G1 hp hG1 _ q1=> ?_⟩
 wp_walk using 1,jJ9 hG1,kJm as.hi,kJm as.hj
 refine⟨W,f,s,ab,rfl,tw,fun G2 q2=> ?_⟩
 have cr:∀(Q':VK3) (R':XK3),(jU1 (dueT W f s ab)=false->∀G',Sub G2 G'->Q' (dueT W f s ab) G')->(jU1 (dueT W f s ab)=true->∀G',Sub G2 G'->R' "NoWeb" G')->jK7 [encW W,.int i,.int j,.int ab] G2 Q' R':=fun Q' R' h1 h2=>⟨W,i,j,ab,f,s,rfl,as,h1,h2⟩
 have hd:=due_or tw
 generalize dueT W f s ab=u at cr hd
 rcases hd with rfl | ⟨V,rfl,fV⟩
 ·refine cr _ _ (fun z=>by cases z) fun _ G3 q3=>⟨by simp,fun a ha=> ?_⟩
  wp_walk using 1,tSeq
  exact⟨a,rfl,jJg,fun G4 q4=>kk G4 (((q1.trans q2).trans q3).trans ((Sub.new ha).trans q4))⟩
 ·refine cr _ _ (fun _ G3 q3=> ?_) fun z=>by cases z
  wp_walk using 1,tSeq
  exact⟨_,rfl,pl_web fV,fun G4 q4=>kk G4 (((q1.trans q2).trans q3).trans q4)⟩
def kK3:Sp3:=fun xs G Q=>∃ns:List Int,xs=[.scr (jKz ns)]/\ns.length<=63/\∀G',Q (.bl true) G'
def N_law:List Str:=["_law_script","_law_box_here","_law_size","_law_web_here","_law_many","_law_turn","_law_one","_law_other","_law_about"]
noncomputable def kJp:TS3:=
 (tSeq (tFor (iSeq (jJz jUs (jJb (tVar 0) (jJb (tC (.int 12)) tNil)))) (jJd 1) (tSeq (tAsg (tOp rIxF (tLst (jJb (tOp jJ4 (tC (.int 1)) (jJz jJo (jJb (tVar 1) (jJb (tC (.int 6)) tNil)))) (jJb (tOp jJ4 (tC (.int 7)) (jJz jJo (jJb (tVar 1) (jJb (tC (.int 6)) tNil)))) tNil))) (tCB kQg (jJb (tOp rEqA (jJz jJo (jJb (tVar 1) (jJb (tC (.int 8)) tNil))) (tC (.int 0))) tNil))) (jJd 2))
 (tSeq (tAsg (jJz jX5 (jJb (tVar 1) (jJb (tVar 2) (jJb (tOp jJ4 (tC (.int 2)) (jJz jJo (jJb (tVar 1) (jJb (tC (.int 4)) tNil)))) tNil)))) (jJd 3))
 (tSeq (tAsg (tCB rLen (jJb (jJz jQ9 (jJb (tVar 3) tNil)) tNil)) (jJd 4))
 (tFor (jKe (jJb (tC (.int 7)) tNil)) (jJd 5) (tSeq (tAsg (jJz jJo (jJb (tVar 1) (jJb (tVar 4) tNil))) (jJd 6))
 (tSeq (tAsg (tOp rMod (tOp jJ4 (tOp jJ4 (tVar 6) (tC (.int 1))) (jJz jJo (jJb (tVar 1) (jJb (tOp rSub (tVar 4) (tC (.int 1))) tNil)))) (tVar 4)) (jJd 7))
 (tIfS (tNot (jJx (tCB rAll (jJb (jKh [false,false,false,false,false,false,false,false,true] (iSeq (tTup (jJb (tC (.int 0)) (jJb (tC (.int 1)) tNil)))) (jJd 8) jK6 (jJz jUr (jJb (tVar 3) (jJb (tVar 6) (jJb (tVar 7) (jJb (tVar 8) tNil)))))) tNil)))) (tRet (tC (.bl false))) jJ6))))))))
 (tRet (tC (.bl true))))
theorem kVf:RdOk kK3 kJp N_law:=by
 intro xs G Q h_;apply xe1 h_;clear h_;intro ns h_;apply ae2 h_;clear h_;intro hns kk
 show kJp _ [some (.scr (jKz ns)),none,none,none,none,none,none,none,none] G
 have hs:=sz
 wp_walk using 1,kJp,jJ3,iSeq
 refine⟨ns,rfl,hns,fun D rs G1 hD hD1 hl hnd hbx s1=>⟨_,jJm hD1,?_⟩⟩
 rw[List.nodup_cons] at hnd
 let J1:Nat->St3->Gp->Prop:=fun i τ G'=>∃(v1 v2 v3 v4 v5 v6 v7:Option T),τ=[some (.scr (jKz ns)),v1,v2,v3,v4,v5,v6,v7,none]/\G' D=some (.lst (rs.map T.ref))/\∀(j:Nat) (r:Addr),i<=j->rs[j]? =some r->BoxAt G' r 0
 refine⟨J1,?_,?_,?_,?_⟩
 ·exact xi7 _ _ _ _ _ _ _ rfl ⟨hD1,fun j r _ hj=>hbx r (List.mem_of_getElem? hj)⟩
 ·intro i τ G' hi h_;apply xe7 h_;clear h_;intro v1 v2 v3 v4 v5 v6 v7 h_;apply ae2 h_;clear h_;intro h1 h2
  exact jJm h1
 ·intro i y τ G2 hy h_;apply xe7 h_;clear h_;intro v1 v2 v3 v4 v5 v6 v7 h_;apply ae2 h_;clear h_;intro h1 h2
  obtain⟨b,hbi,rfl⟩:=jJ5 hy
  have hb2:=h2 i b (Nat.le_refl _) hbi
  have hbm:=List.mem_of_getElem? hbi
  have hbD:b≠D:=fun e=>hnd.1 (e▸hbm)
  wp_walk using 1,jJ3,iSeq,jKe,rEqA,rListA,kQf
  refine⟨b,6,0,rfl,hb2,by decide,by decide,by decide,fun a G3 a0 a1 b3 k3=> ?_⟩
  wp_walk using 1,tSeq
  refine⟨b,6,1,rfl,b3,by decide,by decide,by decide,fun a' G4 a0' a1' b4 k4=> ?_⟩
  wp_walk using 1,tSeq
  refine⟨by omega,fun p hp=> ?_⟩
  obtain⟨bo4,hbo4⟩:=b4.some
  have hbp:=jJj hbo4 hp
  refine⟨b,8,2,rfl,b4.gup hbp,by decide,by decide,by decide,fun z G5 z0 z1 b5 k5=>⟨decide (z=0),eqG_z,?_⟩⟩
  have hp5:=k5 _ _ hbp.symm jJg
  have two:∀(x y:Int) (c:Bool) (G:Gp) (p:Addr),G p=some (.lst [.int x,.int y])->ixR G (.ref p) (.int (if c=true then 1 else 0))=some (.int (if c=true then y else x)):=by
   intro x y c G p h
   rw[jJ9 h]
   cases c<;>rfl
  obtain⟨n,hn,hn1,hn2⟩:∃n:Nat,ixR G5 (.ref p) (.int (if decide (z=0)=true then 1 else 0))=some (.int (n:Nat))/\1<=n/\n<=12:=by
   rw[two _ _ _ _ _ hp5]
   refine⟨(if decide (z=0)=true then 7+a' else 1+a).toNat,?_,?_,?_⟩
   ·congr 2;split<;>omega
   ·split<;>omega
   ·split<;>omega
  refine⟨_,hn,b,4,3,rfl,b5,by decide,by decide,by decide,fun mo G6 m0 m1 b6 k6=> ?_⟩
  obtain⟨m,rfl⟩:=Int.eq_ofNat_of_zero_le m0
  wp_walk using 1,tSeq
  refine⟨b,n,2+m,4,by simp,b6,by decide,hn1,hn2,by omega,by omega,fun W G7 fW sym tw hW b7 k7=> ?_⟩
  wp_walk using 1,tSeq
  refine⟨W,rfl,fW,fun e G8 he hG8 hel s8=> ?_⟩
  have K8:Keep b G2 G8:=((((k3.trans k4).trans (.new hp)).trans k5).trans k6).trans (k7.trans (.sub s8))
  have b8:=b7.sub s8
  wp_walk using 1,jJm hG8,List.length_map
  refine⟨by decide,by decide,?_⟩
  let J2:Nat->St3->Gp->Prop:=fun k τ G'=>∃(v5 v6 v7:Option T),τ=[some (.scr (jKz ns)),some (.ref b),some (.int n),some (encW W),some (.int ((jKq W).length:Nat)),v5,v6,v7,none]/\BoxAt G' b (104+2*k)/\Keep b G2 G'
  refine⟨J2,?_,?_,?_,?_⟩
  ·exact xi3 _ _ _ rfl ⟨b8,K8⟩
  ·intros;trivial
  ·intro k y τ G9 hy h_;apply xe3 h_;clear h_;intro v5 v6 v7 h_;apply ae2 h_;clear h_;intro b9 K9
   obtain⟨hk,rfl⟩:=jVn hy
   have hk7:k<7:=hk
   wp_walk using 1,tSeq
   refine⟨b,_,_,rfl,b9,by omega,by omega,by omega,fun x1 G10 x10 x11 b10 k10=> ?_⟩
   obtain⟨one,rfl⟩:=Int.eq_ofNat_of_zero_le x10
   wp_walk using 1,tSeq
   refine⟨b,_,_,rfl,b10,by omega,by omega,by omega,fun x2 G11 x20 x21 b11 k11=> ?_⟩
   obtain⟨ot,rfl⟩:=Int.eq_ofNat_of_zero_le x20
   have hone:one<(jKq W).length:=by omega
   have ho:(one+1+ot)%(jKq W).length<(jKq W).length:=Nat.mod_lt _ (by omega)
   refine⟨.val (.int ((one:Int)+1+ot)),rfl,_,rfl,by omega,?_⟩
   rw[show ((one:Int)+1+(ot:Int))%((jKq W).length:Int)=(((one+1+ot)%(jKq W).length:Nat):Int) by simp]
   wp_walk using 1,iSeq
   refine⟨by omega,?_⟩
   refine jVs (es:=[0,1]) (enc:=fun x:Nat=>T.int x) (fun _=>T.bl true) (by simp;omega) (fun _ _=>trivial) ?_ ?_
   ·intro i' x hx G12 K K0 s12 hK
    have hx1:x<=1:=by
     have:=List.mem_of_getElem? hx
     simp only[List.mem_cons,List.not_mem_nil,or_false] at this;omega
    wp_walk using 1,tSeq
    exact⟨W,one,(one+1+ot)%(jKq W).length,x,_,_,rfl,⟨fW,sym,by omega,List.getElem?_eq_getElem hone,List.getElem?_eq_getElem ho,hx1⟩,fun G' q=>hK G' q⟩
   ·intro D2 G12 hD2 hG12 s12
    refine⟨D2,_,_,rfl,hG12,jXc (f:=fun _=>true),?_⟩
    rw[List.all_eq_true.mpr (fun _ _=>rfl)]
    refine⟨true,rfl,?_⟩
    rw[if_neg (by decide)]
    exact xi3 _ _ _ rfl ⟨(b11.sub s12).mono (by omega),((K9.trans k10).trans k11).trans (.sub s12)⟩
  ·intro τ G9 h_;apply xe3 h_;clear h_;intro v5 v6 v7 h_;apply ae2 h_;clear h_;intro b9 K9
   refine xi7 _ _ _ _ _ _ _ rfl ⟨K9 _ _ hbD.symm h1,fun j r' hj hr'=> ?_⟩
   have hne:r'≠b:=fun e=>by
    subst e
    have hjl:j<rs.length:=(List.getElem?_eq_some_iff.mp hr').1
    have:=(List.getElem?_inj hjl hnd.2).mp (hr'.trans hbi.symm)
    omega
   obtain⟨x,y,z,e1,e2⟩:=h2 j r' (by omega) hr'
   exact⟨x,y,z,K9 _ _ hne e1,e2⟩
 ·intro τ G2 h_;apply xe7 h_;clear h_;intro v1 v2 v3 v4 v5 v6 v7 h_;apply ae2 h_;clear h_;intro h1 h2
  wp_walk using 1,tSeq
  exact kk G2
end W
namespace W
open PySem PySem.Spec PyProof.Rows L2 L3
theorem ln1 {α:Type} {us:List α} {C:List α->Prop} (h:us.length=1) (k:∀a0,C [a0]):C us:=by
 obtain⟨a0,us,rfl⟩:=List.exists_cons_of_length_eq_add_one h
 replace h:=Nat.succ.inj h
 cases List.length_eq_zero_iff.mp h
 exact k a0
theorem ln2 {α:Type} {us:List α} {C:List α->Prop} (h:us.length=2) (k:∀a0 a1,C [a0,a1]):C us:=by
 obtain⟨a0,us,rfl⟩:=List.exists_cons_of_length_eq_add_one h
 replace h:=Nat.succ.inj h
 obtain⟨a1,us,rfl⟩:=List.exists_cons_of_length_eq_add_one h
 replace h:=Nat.succ.inj h
 cases List.length_eq_zero_iff.mp h
 exact k a0 a1
theorem ln3 {α:Type} {us:List α} {C:List α->Prop} (h:us.length=3) (k:∀a0 a1 a2,C [a0,a1,a2]):C us:=by
 obtain⟨a0,us,rfl⟩:=List.exists_cons_of_length_eq_add_one h
 replace h:=Nat.succ.inj h
 obtain⟨a1,us,rfl⟩:=List.exists_cons_of_length_eq_add_one h
 replace h:=Nat.succ.inj h
 obtain⟨a2,us,rfl⟩:=List.exists_cons_of_length_eq_add_one h
 replace h:=Nat.succ.inj h
 cases List.length_eq_zero_iff.mp h
 exact k a0 a1 a2
theorem ln4 {α:Type} {us:List α} {C:List α->Prop} (h:us.length=4) (k:∀a0 a1 a2 a3,C [a0,a1,a2,a3]):C us:=by
 obtain⟨a0,us,rfl⟩:=List.exists_cons_of_length_eq_add_one h
 replace h:=Nat.succ.inj h
 obtain⟨a1,us,rfl⟩:=List.exists_cons_of_length_eq_add_one h
 replace h:=Nat.succ.inj h
 obtain⟨a2,us,rfl⟩:=List.exists_cons_of_length_eq_add_one h
 replace h:=Nat.succ.inj h
 obtain⟨a3,us,rfl⟩:=List.exists_cons_of_length_eq_add_one h
 replace h:=Nat.succ.inj h
 cases List.length_eq_zero_iff.mp h
 exact k a0 a1 a2 a3
def top (i:Nat):Stmt:=PySem.Challenge.pw_stonewalker_k53_two_ties_crossed.main.body.getD i (.Pass ⟨0,0,0,0⟩)
def FnAt (K:PySem.W.Frag) (mg:Str->Option Value) (x:Str) (i:Nat):Prop:=∃f fd,mg x=some (.ref f)/\Fun K x x (top i) f fd
structure Txt (K:PySem.W.Frag) (mg:Str->Option Value):Prop where
 n_abs:mg "abs"=none
 n_all:mg "all"=none
 n_bool:mg "bool"=none
 n_enumerate:mg "enumerate"=none
 n_int:mg "int"=none
 n_isinstance:mg "isinstance"=none
 n_len:mg "len"=none
 n_list:mg "list"=none
 n_max:mg "max"=none
 n_min:mg "min"=none
 n_range:mg "range"=none
 n_sum:mg "sum"=none
 n_tuple:mg "tuple"=none
 n_zip:mg "zip"=none
 x_NoWeb:ExC K mg "NoWeb"
 i_NoStone:∀cn b,(cn,b)∈([("NoWeb",false)]:List (Str×Bool))->IsX K mg ["NoStone"] cn b
 v_NoStone:∃v,ClsV mg "NoStone" v/\Cl1 v
 i_NoDoor:∀cn b,(cn,b)∈([("NoWeb",false)]:List (Str×Bool))->IsX K mg ["NoDoor"] cn b
 v_NoDoor:∃v,ClsV mg "NoDoor" v/\Cl1 v
 i_NoWeb:∀cn b,(cn,b)∈([("NoWeb",true)]:List (Str×Bool))->IsX K mg ["NoWeb"] cn b
 v_NoWeb:∃v,ClsV mg "NoWeb" v/\Cl1 v
 i_NoMark:∀cn b,(cn,b)∈([("NoWeb",false)]:List (Str×Bool))->IsX K mg ["NoMark"] cn b
 v_NoMark:∃v,ClsV mg "NoMark" v/\Cl1 v
 i_Clash:∀cn b,(cn,b)∈([("NoWeb",false)]:List (Str×Bool))->IsX K mg ["Clash"] cn b
 v_Clash:∃v,ClsV mg "Clash" v/\Cl1 v
 i_TooMany:∀cn b,(cn,b)∈([("NoWeb",false)]:List (Str×Bool))->IsX K mg ["TooMany"] cn b
 v_TooMany:∃v,ClsV mg "TooMany" v/\Cl1 v
 i_BadRow:∀cn b,(cn,b)∈([("NoWeb",false)]:List (Str×Bool))->IsX K mg ["BadRow"] cn b
 v_BadRow:∃v,ClsV mg "BadRow" v/\Cl1 v
 i_NotWhole:∀cn b,(cn,b)∈([("NoWeb",false)]:List (Str×Bool))->IsX K mg ["NotWhole"] cn b
 v_NotWhole:∃v,ClsV mg "NotWhole" v/\Cl1 v
 i_ValueError:∀cn b,(cn,b)∈([("NoWeb",true)]:List (Str×Bool))->IsX K mg ["ValueError"] cn b
 v_ValueError:∃v,ClsV mg "ValueError" v/\Cl1 v
 t_WebError:∀cn,cn∈(["NoWeb"]:List Str)->ExSub K mg cn "WebError" true
 f_first_comings:FnAt K mg "first_comings" 11
 f_ties:FnAt K mg "ties" 12
 f_with_end:FnAt K mg "with_end" 14
 f_with_tie:FnAt K mg "with_tie" 15
 f_by_ties:FnAt K mg "by_ties" 16
 f_crossed:FnAt K mg "crossed" 17
 f_l_box:FnAt K mg "_law_box" 19
 f_l_take:FnAt K mg "_law_take" 20
 f_l_boxes:FnAt K mg "_law_boxes" 21
 f_l_web:FnAt K mg "_law_web" 22
 f_l_same:FnAt K mg "_law_same" 24
 f_l_is_only:FnAt K mg "_law_is_only" 25
 f_l_ties:FnAt K mg "_law_ties" 26
 f_l_crossed:FnAt K mg "_law_crossed" 27
 f_l_right:FnAt K mg "_law_right" 28
 f_law:FnAt K mg "law" 29
variable {P:Program} {w:World} {K:PySem.W.Frag} {mg:Str->Option Value} {base:Heap}
theorem cal3 {x:Str} {i k:Nat} {N ps:List Str} {sp:Sp3} {t:TS3} (F:FnAt K mg x i) (h:∀xs G Q,sp xs G Q->t {nx:=fun _ G'=>Q .non G',rt:=Q} (jKu N xs) G)
  (d:∀(f:Addr) (cdv:Value) (A:Around) (outer:List Env) (s:Shared) (H:Hp) (E:XK),Room k (A.deeper (envOfC x (jJk (top i)) s.heap.objs.size f cdv))->(A.deeper (envOfC x (jJk (top i)) s.heap.objs.size f cdv)).units+20<cLine->N.Nodup->PSs3 (cxOf CX0 P w K mg base N x (jJk (top i)) f cdv A outer s H E).nox (jKg (top i)) t)
  (S:FnScope N ps (jJk (top i)):=by exact⟨rfl,rfl,rfl,by decide +kernel,rfl,by decide +kernel,by decide +kernel⟩)
  (b:∀(kV doc pm:Value) (an:Option Addr) (cdv ct:Value) (us:List Value),us.length=ps.length->bindArgs (PySem.W.fnOf x x (jQv (top i)) (jKg (top i)) (jJk (top i)) .none kV doc pm an cdv ct) ⟨us,[]⟩=pure (ps.zip us):=by (intro _ _ _ _ _ _ us hl;first | (apply ln1 hl;intros;rfl) | (apply ln2 hl;intros;rfl) | (apply ln3 hl;intros;rfl) | (apply ln4 hl;intros;rfl)))
  (m:Mono sp:=by (intro xs G Q Q' hq;(repeat' (first | (refine Exists.imp fun _=> ?_) | (refine And.imp_right ?_)));intro k;intros;apply hq;apply k<;>assumption))
  (n:∀xs G Q,sp xs G Q->xs.length=ps.length:=by (intro xs G Q h;repeat (first | exact (congrArg List.length h.1).trans rfl | obtain⟨_,h⟩:=h))):Cal P w K mg base (k+1) x ps sp:=by
 obtain⟨f,fd,a,F⟩:=F
 exact⟨⟨f,fd,fn3 F S fun cdv A outer s H E hr=>⟨t,d f cdv A outer s H E hr (kZb hr) S.nd,h⟩,a,F.kp,F.binds b⟩,m,n⟩
theorem calX3 {x:Str} {i k:Nat} {N ps:List Str} {sp:SpX} {t:XK3->TS3} (F:FnAt K mg x i) (h:∀xs G Q R,sp xs G Q R->t R {nx:=fun _ G'=>Q .non G',rt:=Q} (jKu N xs) G)
  (d:∀(f:Addr) (cdv:Value) (A:Around) (outer:List Env) (s:Shared) (H:Hp) (E:XK) (R:XK3),Room k (A.deeper (envOfC x (jJk (top i)) s.heap.objs.size f cdv))->(A.deeper (envOfC x (jJk (top i)) s.heap.objs.size f cdv)).units+20<cLine->N.Nodup->XR (cxOf (CXX P w) P w K mg base N x (jJk (top i)) f cdv A outer s H E) R->PSs3 (cxOf (CXX P w) P w K mg base N x (jJk (top i)) f cdv A outer s H E) (jKg (top i)) (t R))
  (m:kXm sp) (S:FnScope N ps (jJk (top i)):=by exact⟨rfl,rfl,rfl,by decide +kernel,rfl,by decide +kernel,by decide +kernel⟩)
  (b:∀(kV doc pm:Value) (an:Option Addr) (cdv ct:Value) (us:List Value),us.length=ps.length->bindArgs (PySem.W.fnOf x x (jQv (top i)) (jKg (top i)) (jJk (top i)) .none kV doc pm an cdv ct) ⟨us,[]⟩=pure (ps.zip us):=by (intro _ _ _ _ _ _ us hl;first | (apply ln1 hl;intros;rfl) | (apply ln2 hl;intros;rfl) | (apply ln3 hl;intros;rfl) | (apply ln4 hl;intros;rfl)))
  (n:∀xs G Q R,sp xs G Q R->xs.length=ps.length:=by (intro xs G Q R h;repeat (first | exact (congrArg List.length h.1).trans rfl | obtain⟨_,h⟩:=h))):CalX P w K mg base (k+1) x ps sp:=by
 obtain⟨f,fd,a,F⟩:=F
 exact⟨⟨f,fd,fnX F S fun cdv A outer s H E R hr hx=>⟨t R,d f cdv A outer s H E R hr (kZb hr) S.nd hx,fun xs G Q=>h xs G Q R⟩,a,F.kp,F.binds b⟩,m,n⟩
theorem cal0 {x:Str} {i k:Nat} {ps:List Str} (F:FnAt K mg x i) (b:∀(kV doc pm:Value) (an:Option Addr) (cdv ct:Value) (us:List Value),us.length=ps.length->bindArgs (PySem.W.fnOf x x (jQv (top i)) (jKg (top i)) (jJk (top i)) .none kV doc pm an cdv ct) ⟨us,[]⟩=pure (ps.zip us):=by (intro _ _ _ _ _ _ us hl;first | (apply ln1 hl;intros;rfl) | (apply ln2 hl;intros;rfl) | (apply ln3 hl;intros;rfl) | (apply ln4 hl;intros;rfl))):Cal P w K mg base k x ps (fun _ _ _=>False):=by
 obtain⟨f,fd,a,F⟩:=F
 refine⟨⟨f,fd,⟨fun vs H Q E h=>h.1,?_⟩,a,F.kp,F.binds b⟩,fun _ _ _ _ _ h=>h,fun _ _ _ h=>h.elim⟩
 intros
 rename_i h
 exact absurd h (by rintro⟨_,_,_,_,_,h⟩;exact h)
theorem jVh (T:Txt K mg):Cal P w K mg base 1 "first_comings" ["web","room"] jKk:=
 cal3 T.f_first_comings jUb fun _ _ _ _ _ _ _ hr hu nd=>
  (jJe (jJw (i:=2) nd (kZg (jJc 1) jU5))
   (jJe (jJw (i:=3) nd (jU6 (jJa (jJc 1) jJf)))
   (jJe (kK6 PassesOwn.never (t_tru kKy (jJc 3)) (jJe (jJw (i:=4) nd (jU6 jJf))
   (jJe (jQ3 PassesOwn.never rfl (jY9 (jJc 3)) (jJq (i:=5) nd) (jJi (jQ3 PassesOwn.never rfl (jZ6 rfl T.n_enumerate rfl (jJa (e_ix (ix_F hu) (jJc 0) (jJc 5) (fun _ _=>rfl)) jJf)) (jU3 rfl (jJv (jJq (i:=6) nd) (jJv (jJq (i:=7) nd) jQa))) (jJi (s_if (jK3 (jY6 hu) (e_ix (ix_F hu) (jJc 7) jJh (fun _ _=>rfl)) (jJc 2) (jJl _)) (jJe (jXg (jQb (jJa (jJc 5) (jJa (jJc 6) jJf))) (jYm (jJc 2) (e_ix (ix_F hu) (jJc 7) jJh (fun _ _=>rfl)) (s_F hu)))
   (jJi (jXp (e_bm PySem.F.plainAttrs_list PySem.F.slot_list_append PySem.F.type_list_append jQz (jJc 4) (jJa (e_ix (ix_F hu) (jJc 7) jJh (fun _ _=>rfl)) jJf))))) jJ7)))))
   (jJi (jJw (i:=3) nd (jJc 4))))))
   (jJi (jKm (jJc 2))))))
theorem kYp (T:Txt K mg):Cal P w K mg base 1 "ties" ["web"] jZw:=
 cal3 T.f_ties kK7 fun _ _ _ _ _ _ _ hr hu nd=>
  (jJe (jJw (i:=1) nd (jU6 jJf))
   (jJe (jQ3 PassesOwn.never rfl (jZ6 rfl T.n_enumerate rfl (jJa (jJc 0) jJf)) (jU3 rfl (jJv (jJq (i:=2) nd) (jJv (jJq (i:=3) nd) jQa))) (jJi (jQ3 PassesOwn.never rfl (jZ6 rfl T.n_enumerate rfl (jJa (jJc 3) jJf)) (jU3 rfl (jJv (jJq (i:=4) nd) (jJv (jJq (i:=5) nd) jQa))) (jJi (s_if (jK3 (kYu hu) (jQb (jJa (jJc 2) (jJa (jJc 4) jJf))) (jJc 5) (jJl _)) (jJi (jXp (e_bm PySem.F.plainAttrs_list PySem.F.slot_list_append PySem.F.type_list_append jQz (jJc 1) (jJa (jQb (jJa (jQb (jJa (jJc 2) (jJa (jJc 4) jJf))) (jJa (jJc 5) jJf))) jJf)))) jJ7)))))
   (jJi (jKm (jJc 1)))))
theorem jV5 (T:Txt K mg):Cal P w K mg base 1 "with_end" ["web","start","end"] jQg:=
 cal3 T.f_with_end jYa fun _ _ _ _ _ _ _ hr hu nd=>
  (jJe (jJw (i:=3) nd (e_ix (ix_F hu) (jJc 0) (e_ix (ix_F hu) (jJc 1) jJh (fun _ _=>rfl)) (fun _ _=>rfl)))
   (jJe (jJw (i:=4) nd (e_op jXs (e_op jXs (jYq sl_F (jJc 3) kJq (jV3 (e_ix (ix_F hu) (jJc 1) jJh (fun _ _=>rfl)))) (jQb (jJa (jJc 2) jJf))) (jYq sl_F (jJc 3) (jV3 (e_op jXs (e_ix (ix_F hu) (jJc 1) jJh (fun _ _=>rfl)) jJh)) kJq)))
   (jJi (jKm (e_op jXs (e_op jXs (jYq sl_F (jJc 0) kJq (jV3 (e_ix (ix_F hu) (jJc 1) jJh (fun _ _=>rfl)))) (jQb (jJa (jJc 4) jJf))) (jYq sl_F (jJc 0) (jV3 (e_op jXs (e_ix (ix_F hu) (jJc 1) jJh (fun _ _=>rfl)) jJh)) kJq))))))
theorem jV4 (T:Txt K mg):Cal P w K mg base 2 "with_tie" ["web","one","other"] jQf:=
 cal3 T.f_with_tie jX9 fun _ _ _ _ _ _ _ hr hu nd=>
  (jJi (jKm (jKa (jV5 T) (hr.mono (by decide)) (jJa (jKa (jV5 T) (hr.mono (by decide)) (jJa (jJc 0) (jJa (jJc 1) (jJa (jJc 2) jJf)))) (jJa (jJc 2) (jJa (jJc 1) jJf))))))
theorem kKi (T:Txt K mg):Cal P w K mg base 3 "by_ties" ["web","first","second","about"] jUt:=
 cal3 T.f_by_ties jY1 fun _ _ _ _ _ _ _ hr hu nd=>
  (jJe (s_if (jK3 (kYt hr.units) (jUk (jUd hr.units) (e_ix (ix_F hu) (jJc 1) jJh (fun _ _=>rfl)) (e_ix (ix_F hu) (jJc 1) jJh (fun _ _=>rfl)) (jJl _)) (jUk (jUd hr.units) (e_ix (ix_F hu) (jJc 2) jJh (fun _ _=>rfl)) (e_ix (ix_F hu) (jJc 2) jJh (fun _ _=>rfl)) (jJl _)) (jJl _)) (jJi (jKm jU5)) jJ7)
   (jJe (jJw (i:=4) nd (e_ix (ix_F hu) (jJc 2) (jJc 3) (fun _ _=>rfl)))
   (jJe (jJw (i:=5) nd (e_ix (ix_F hu) (jJc 2) (e_op kKj jJh (jJc 3)) (fun _ _=>rfl)))
   (jJe (jJw (i:=6) nd (jKa (jV4 T) (hr.mono (by decide)) (jJa (jKa (jV4 T) (hr.mono (by decide)) (jJa (jJc 0) (jJa (e_ix (ix_F hu) (jJc 1) jJh (fun _ _=>rfl)) (jJa (jJc 5) jJf)))) (jJa (jJc 4) (jJa (e_ix (ix_F hu) (jJc 1) jJh (fun _ _=>rfl)) jJf)))))
   (jJi (jKm (jZ9 (jK3 (jUd hr.units) (jJn kX2 (by rfl) T.n_len PySem.boot_len (jJa (jKa (jVh T) (hr.mono (by decide)) (jJa (jJc 6) (jJa jJh jJf))) jJf)) (jJn kX2 (by rfl) T.n_len PySem.boot_len (jJa (jJc 6) jJf)) (jJl _)) (jJc 6) jU5)))))))
theorem kKh (T:Txt K mg):CalX P w K mg base 4 "crossed" ["web","one","other","about"] jK7:=
 calX3 T.f_crossed jY0 (m:=jY7) fun _ _ _ _ _ _ _ R hr hu nd hx=>
  (jJe (jJw (i:=4) nd (jKa (kYp T) (hr.mono (by decide)) (jJa (jJc 0) jJf)))
   (jJe (jJw (i:=5) nd (jKa (kKi T) (hr.mono (by decide)) (jJa (jJc 0) (jJa (e_ix (ix_F hu) (jJc 4) (jJc 1) (fun _ _=>rfl)) (jJa (e_ix (ix_F hu) (jJc 4) (jJc 2) (fun _ _=>rfl)) (jJa (jJc 3) jJf))))))
   (jJe (s_if (jK3 kQp (jJc 5) jU5 (jJl _)) (jJi (kVe hx T.x_NoWeb rfl (jJa e_str jJf))) jJ7)
   (jJi (jKm (jJc 5))))))
theorem kVr (T:Txt K mg):Cal P w K mg base 1 "_law_box" ["_law_script","_law_k"] jX6:=
 cal3 T.f_l_box kKd fun _ _ _ _ _ _ _ hr hu nd=>
  (jJe (jJw (i:=2) nd jJh)
   (jJe (s_if (jK3 o_lt (jJc 1) (jJn jQl (by rfl) T.n_len PySem.boot_len (jJa (jJc 0) jJf)) (jJl _)) (jJi (jJw (i:=2) nd (e_ix (ix_F hu) (jJc 0) (jJc 1) (fun _ _=>rfl)))) jJ7)
   (jJe (jJw (i:=3) nd jJh)
   (jJe (s_if (jK3 o_ge (jJn c_abs (by rfl) T.n_abs rfl (jJa (jJc 2) jJf)) (e_op o_pow jJh jJh) (jJl _)) (jJi (jJw (i:=3) nd (jJn c_abs (by rfl) T.n_abs rfl (jJa (jJc 2) jJf)))) jJ7)
   (jJi (jKm (jU6 (jJa (jJc 3) (jJa (e_op jXj (e_op jXr (e_op o_addF (e_op o_addF (e_op jXj (jJc 2) jJh) (e_op jXr jJh (jJc 1))) jJh) jJh) jJh) (jJa jJh jJf))))))))))
theorem jJy (T:Txt K mg):Cal P w K mg base 1 "_law_take" ["_law_box_here","_law_many"] jJo:=
 cal3 T.f_l_take jZz fun _ _ _ _ _ _ _ hr hu nd=>
  (jJe (s_if (jK3 o_gt (e_ix (ix_F hu) (jJc 0) jJh (fun _ _=>rfl)) jJh (jJl _)) (jJe (jJw (i:=2) nd (e_op jXj (e_ix (ix_F hu) (jJc 0) jJh (fun _ _=>rfl)) (jJc 1)))
   (jJe (jXg (e_op kXu (e_ix (ix_F hu) (jJc 0) jJh (fun _ _=>rfl)) (jJc 1)) (jYm (jJc 0) jJh (s_F hu)))
   (jJi (jKm (jJc 2))))) jJ7)
   (jJe (jXg (e_op o_addF (e_ix (ix_F hu) (jJc 0) jJh (fun _ _=>rfl)) jJh) (jYm (jJc 0) jJh (s_F hu)))
   (jJe (jJw (i:=3) nd (e_op jXj (e_op jXr (e_op o_addF (e_ix (ix_F hu) (jJc 0) jJh (fun _ _=>rfl)) (e_op jXr jJh (e_ix (ix_F hu) (jJc 0) jJh (fun _ _=>rfl)))) (e_op o_addF jJh (e_ix (ix_F hu) (jJc 0) jJh (fun _ _=>rfl)))) jJh))
   (jJe (jXg (e_op jXj (e_op o_addF (e_op jXr (jJc 3) (e_op o_addF (e_op jXj (jJc 3) jJh) jJh)) (e_ix (ix_F hu) (jJc 0) jJh (fun _ _=>rfl))) jJh) (jYm (jJc 0) jJh (s_F hu)))
   (jJi (jKm (e_op jXj (e_op kXu (e_op jXj (e_op jXr (e_ix (ix_F hu) (jJc 0) jJh (fun _ _=>rfl)) (e_op o_addF (e_op jXj (e_ix (ix_F hu) (jJc 0) jJh (fun _ _=>rfl)) jJh) jJh)) jJh) jJh) (jJc 1))))))))
theorem kKg (T:Txt K mg):Cal P w K mg base 2 "_law_boxes" ["_law_script","_law_most"] jUs:=
 cal3 T.f_l_boxes jYz fun _ _ _ _ _ _ _ hr hu nd=>
  (jJe (jJw (i:=2) nd (jVf (mask:=[false,false,false,true]) rfl ⟨rfl,rfl,rfl,rfl,rfl,rfl,rfl⟩ (jKp rfl T.n_range (jJa (jJn (c_max rfl) (by rfl) T.n_max rfl (jJa jJh (jJa (jJn (c_min2 rfl) (by rfl) T.n_min rfl (jJa (jJc 1) (jJa (jJn jQl (by rfl) T.n_len PySem.boot_len (jJa (jJc 0) jJf)) jJf))) jJf))) jJf)) jKf (fun C fp s H=>(jJq (i:=3) nd)) (fun C fp s H=>jUh) (fun C fp s H=>(jJn (c_sum rfl) (by rfl) T.n_sum rfl (jJa (e_slSt (jJc 0) (jV3 (jJc 3)) (jV3 jJh) (jV3 (jJc 1))) jJf)))))
   (jJi (jKm (jVf (mask:=[false,false,false,true]) rfl ⟨rfl,rfl,rfl,rfl,rfl,rfl,rfl⟩ (jKp rfl T.n_range (jJa (jJn jQl (by rfl) T.n_len PySem.boot_len (jJa (jJc 2) jJf)) jJf)) jKf (fun C fp s H=>(jJq (i:=3) nd)) (fun C fp s H=>jUh) (fun C fp s H=>(jKa (kVr T) (hr.mono (by decide)) (jJa (jJc 2) (jJa (jJc 3) jJf))))))))
theorem kVq (T:Txt K mg):Cal P w K mg base 2 "_law_web" ["_law_box_here","_law_size","_law_more"] jX5:=
 cal3 T.f_l_web kKc fun _ _ _ _ _ _ _ hr hu nd=>
  (jJe (jJw (i:=3) nd (jVf (mask:=[false,false,false,false,false,false,false,false,false,false,false,false,true,false,false,false]) rfl ⟨rfl,rfl,rfl,rfl,rfl,rfl,rfl⟩ (jKp rfl T.n_range (jJa (jJc 1) jJf)) jKf (fun C fp s H=>(jJq (i:=12) nd)) (fun C fp s H=>jUh) (fun C fp s H=>(jU6 jJf))))
   (jJe (jJw (i:=4) nd kZh)
   (jJe (jQ3 PassesOwn.never rfl (jKp rfl T.n_range (jJa (e_op o_addF (e_op kKj (jJc 1) jJh) (jJc 2)) jJf)) (jJq (i:=5) nd) (jJe (kXq (i:=6) (mask:=[false,false,false,false,false,false,false,false,false,false,false,false,true,false,false,false]) rfl nd ⟨rfl,rfl,rfl,rfl,rfl,rfl,rfl⟩ (jKp rfl T.n_range (jJa (jJc 1) jJf)) jKf (fun C fp s H=>(jJq (i:=12) nd)) (fun C fp s H=>(kXx (jK3 o_lt (jJn jQl (by rfl) T.n_len PySem.boot_len (jJa (e_ix (ix_F hu) (jJc 3) (jJc 12) (fun _ _=>rfl)) jJf)) jJh (jJl _)))) (fun C fp s H=>(jJc 12)))
   (jJe (s_if (jK3 (jUd hr.units) (jJc 6) (jU6 jJf) (jJl _)) (jJi s_cont) jJ7)
   (jJe (jJw (i:=7) nd (e_ix (ix_F hu) (jJc 6) (jKa (jJy T) (hr.mono (by decide)) (jJa (jJc 0) (jJa (jJn jQl (by rfl) T.n_len PySem.boot_len (jJa (jJc 6) jJf)) jJf))) (fun _ _=>rfl)))
   (jJe (jJw (i:=8) nd (e_ix (ix_F hu) (jJc 6) (jKa (jJy T) (hr.mono (by decide)) (jJa (jJc 0) (jJa (jJn jQl (by rfl) T.n_len PySem.boot_len (jJa (jJc 6) jJf)) jJf))) (fun _ _=>rfl)))
   (jJe (s_if (jK3 o_lt (jJc 5) (e_op kKj (jJc 1) jJh) (jJl _)) (jJe (jJw (i:=8) nd (e_op o_addF (jJc 5) jJh))
   (jJe (kXq (i:=9) (mask:=[false,false,false,false,false,false,false,false,false,false,false,false,true,false,false,false]) rfl nd ⟨rfl,rfl,rfl,rfl,rfl,rfl,rfl⟩ (jY9 (jJc 6)) jKf (fun C fp s H=>(jJq (i:=12) nd)) (fun C fp s H=>(kXx (jK3 (kYu hu) (jJc 12) (jJc 5) (jJl _)))) (fun C fp s H=>(jJc 12)))
   (jJi (jJw (i:=7) nd (e_ix (ix_F hu) (jJc 9) (jKa (jJy T) (hr.mono (by decide)) (jJa (jJc 0) (jJa (jJn jQl (by rfl) T.n_len PySem.boot_len (jJa (jJc 9) jJf)) jJf))) (fun _ _=>rfl)))))) jJ7)
   (jJe (jJw (i:=10) nd (jZd (jUk o_ge (jJc 5) (e_op kKj (jJc 1) jJh) (jJl _)) (kKn (jUk (jUd hr.units) (jKa (jJy T) (hr.mono (by decide)) (jJa (jJc 0) (jJa jJh jJf))) jJh (jJl _)))))
   (jJe (jXg (jJc 10) (jYm (jJc 4) (jJc 5) (s_F hu)))
   (jJe (jXp (e_bm PySem.F.plainAttrs_list PySem.F.slot_list_insert PySem.F.type_list_insert kJs (e_ix (ix_F hu) (jJc 3) (jJc 7) (fun _ _=>rfl)) (jJa (jKa (jJy T) (hr.mono (by decide)) (jJa (jJc 0) (jJa (e_op o_addF (jJn jQl (by rfl) T.n_len PySem.boot_len (jJa (e_ix (ix_F hu) (jJc 3) (jJc 7) (fun _ _=>rfl)) jJf)) jJh) jJf))) (jJa (jQb (jJa (jJc 5) (jJa jJh jJf))) jJf))))
   (jJi (s_if (kX7 (t_tru kKy (jJc 10))) (jJi (jXp (e_bm PySem.F.plainAttrs_list PySem.F.slot_list_insert PySem.F.type_list_insert kJs (e_ix (ix_F hu) (jJc 3) (jJc 8) (fun _ _=>rfl)) (jJa (jKa (jJy T) (hr.mono (by decide)) (jJa (jJc 0) (jJa (e_op o_addF (jJn jQl (by rfl) T.n_len PySem.boot_len (jJa (e_ix (ix_F hu) (jJc 3) (jJc 8) (fun _ _=>rfl)) jJf)) jJh) jJf))) (jJa (jQb (jJa (jJc 5) (jJa jJh jJf))) jJf))))) jJ7)))))))))))
   (jJe (jJw (i:=11) nd kZh)
   (jJe (jQ3 PassesOwn.never rfl (jKp rfl T.n_range (jJa (jJc 1) jJf)) (jJq (i:=12) nd) (jJi (jQ3 PassesOwn.never rfl (i_enum rfl T.n_enumerate rfl (jJa (e_ix (ix_F hu) (jJc 3) (jJc 12) (fun _ _=>rfl)) jJf)) (jU3 rfl (jJv (jJq (i:=13) nd) (jJv (jJq (i:=14) nd) jQa))) (jJi (jXg (jQb (jJa (jJc 12) (jJa (jJc 13) jJf))) (jYm (jJc 11) (jJc 14) (s_F hu)))))))
   (jJi (jKm (jUl jYu (by rfl) T.n_tuple rfl (jJa (jVf (mask:=[false,false,false,false,false,false,false,false,false,false,false,false,false,false,false,true]) rfl ⟨rfl,rfl,rfl,rfl,rfl,rfl,rfl⟩ (jY9 (jJc 3)) jKf (fun C fp s H=>(jJq (i:=15) nd)) (fun C fp s H=>jUh) (fun C fp s H=>(jUl jYu (by rfl) T.n_tuple rfl (jJa (jVf (mask:=[false,false,false,false,false,true,false,false,false,false,false,false,false,false,true,false]) rfl ⟨rfl,rfl,rfl,rfl,rfl,rfl,rfl⟩ (jY9 (jJc 15)) (kXy (jYl jKf jU2 (jYl jKf jU2 kXz kJy) (kQ5 jU2 kJy))) (fun C fp s H=>(jU3 rfl (jJv (jJq (i:=5) nd) (jJv (jJq (i:=14) nd) jQa)))) (fun C fp s H=>jUh) (fun C fp s H=>(e_ix (ix_F hu) (jJc 11) (jQb (jJa (jJc 5) (jJa (jZ9 (kU4 (e_ix (ix_F hu) (jJc 4) (jJc 5) (fun _ _=>rfl))) (jJc 14) (e_op kKj jJh (jJc 14))) jJf))) (fun _ _=>rfl)))) jJf)))) jJf)))))))))
theorem jQy {j:Nat} {sp sp':Sp3} (T:Txt K mg) (C_l_same:Cal P w K mg base (j) "_law_same" ["_law_found","_law_due"] sp) (h:∀xs G Q,sp' xs G Q->jKw sp {nx:=fun _ G'=>Q .non G',rt:=Q} (jKu jVv xs) G) (m:Mono sp':=by unfold jXf;(intro xs G Q Q' hq;(repeat' (first | (refine Exists.imp fun _=> ?_) | (refine And.imp_right ?_)));intro k;intros;apply hq;apply k<;>assumption)) (n:∀xs G Q,sp' xs G Q->xs.length=(["_law_found","_law_due"]:List Str).length:=by (intro xs G Q h;repeat (first | exact (congrArg List.length h.1).trans rfl | obtain⟨_,h⟩:=h))):Cal P w K mg base (j+1) "_law_same" ["_law_found","_law_due"] sp':=
 cal3 T.f_l_same h (fun _ _ _ _ _ _ _ hr hu nd=>(jJe (s_if (kU4 (jJn kJe (by rfl) T.n_isinstance rfl (jJa (jJc 1) (jJa (jQb (jJa (e_ty rfl T.n_list rfl) (jJa (e_ty rfl T.n_tuple rfl) jJf))) jJf)))) (jJe (s_if (PW3.pt (w_or (kX7 (kU4 (jJn kJe (by rfl) T.n_isinstance rfl (jJa (jJc 0) (jJa (jQb (jJa (e_ty rfl T.n_list rfl) (jJa (e_ty rfl T.n_tuple rfl) jJf))) jJf))))) (w_or1 (jK3 (kYt hr.units) (jJn kJe (by rfl) T.n_isinstance rfl (jJa (jJc 0) (jJa (e_ty rfl T.n_list rfl) jJf))) (jJn kJe (by rfl) T.n_isinstance rfl (jJa (jJc 1) (jJa (e_ty rfl T.n_list rfl) jJf))) (jJl _))))) (jJi (jKm e_bl)) jJ7)
   (jJi (jKm (jZd (jUk (jUd hr.units) (jJn jQl (by rfl) T.n_len PySem.boot_len (jJa (jJc 0) jJf)) (jJn jQl (by rfl) T.n_len PySem.boot_len (jJa (jJc 1) jJf)) (jJl _)) (kKn (jJn (c_all rfl) (by rfl) T.n_all rfl (jJa (jVf (mask:=[false,false,true,true]) rfl ⟨rfl,rfl,rfl,rfl,rfl,rfl,rfl⟩ (i_zip rfl T.n_zip rfl (jJa (jJc 0) (jJa (jJc 1) jJf))) (kXy (jYl jKf jU2 (jYl jKf jU2 kXz kJy) (kQ5 jU2 kJy))) (fun C fp s H=>(jU3 rfl (jJv (jJq (i:=2) nd) (jJv (jJq (i:=3) nd) jQa)))) (fun C fp s H=>jUh) (fun C fp s H=>(jKa C_l_same hr (jJa (jJc 2) (jJa (jJc 3) jJf))))) jJf))))))) jJ7)
   (jJe (s_if (jK3 kQp (jJc 1) jU5 (jJl _)) (jJi (jKm (jUk kQp (jJc 0) jU5 (jJl _)))) jJ7)
   (jJi (jKm (jZd (jJn kJe (by rfl) T.n_isinstance rfl (jJa (jJc 0) (jJa (e_ty rfl T.n_int rfl) jJf))) (jZd (jUk (jUd hr.units) (jJn kJe (by rfl) T.n_isinstance rfl (jJa (jJc 0) (jJa (e_ty rfl T.n_bool rfl) jJf))) (jJn kJe (by rfl) T.n_isinstance rfl (jJa (jJc 1) (jJa (e_ty rfl T.n_bool rfl) jJf))) (jJl _)) (kKn (jUk (jUd hr.units) (jJc 0) (jJc 1) (jJl _)))))))))) (m:=m) (n:=n)
theorem kQm (T:Txt K mg):Cal P w K mg base 4 "_law_same" ["_law_found","_law_due"] (jXf 3):=
 jQy (j:=3) (sp':=jXf 3) T (jQy (j:=2) (sp':=jXf 2) T (jQy (j:=1) (sp':=jXf 1) T (jQy (j:=0) (sp':=jXf 0) T (cal0 T.f_l_same) (jVb _)) (jQ5 0)) (jQ5 1)) (jQ5 2)
theorem jY4 (T:Txt K mg):Cal P w K mg base 1 "_law_is_only" ["_law_error","_law_place"] jQo:=
 cal3 T.f_l_is_only jXh fun _ _ _ _ _ _ _ hr hu nd=>
  (jJe (jJw (i:=2) nd (jU6 (jJa (jUj (rel:=[("NoWeb",true)]) T.i_NoWeb T.v_NoWeb (jJc 0) T.n_isinstance) (jJa (jUj (rel:=[("NoWeb",false)]) T.i_NoDoor T.v_NoDoor (jJc 0) T.n_isinstance) (jJa (jUj (rel:=[("NoWeb",false)]) T.i_NoStone T.v_NoStone (jJc 0) T.n_isinstance) jJf)))))
   (jJe (jJw (i:=2) nd (e_op o_addF (jJc 2) (jU6 (jJa (jUj (rel:=[("NoWeb",false)]) T.i_TooMany T.v_TooMany (jJc 0) T.n_isinstance) (jJa (jUj (rel:=[("NoWeb",false)]) T.i_Clash T.v_Clash (jJc 0) T.n_isinstance) (jJa (jUj (rel:=[("NoWeb",false)]) T.i_NoMark T.v_NoMark (jJc 0) T.n_isinstance) jJf))))))
   (jJe (jJw (i:=2) nd (e_op o_addF (jJc 2) (jU6 (jJa (jUj (rel:=[("NoWeb",false)]) T.i_NotWhole T.v_NotWhole (jJc 0) T.n_isinstance) (jJa (jUj (rel:=[("NoWeb",false)]) T.i_BadRow T.v_BadRow (jJc 0) T.n_isinstance) jJf)))))
   (jJi (jKm (jZd (jUj (rel:=[("NoWeb",true)]) T.i_ValueError T.v_ValueError (jJc 0) T.n_isinstance) (jZd (jUk (jUd hr.units) (e_bm PySem.F.plainAttrs_list PySem.F.slot_list_count PySem.F.type_list_count kYw (jJc 2) (jJa e_bl jJf)) jJh (jJl _)) (kKn (e_ix (ix_F hu) (jJc 2) (jJc 1) (fun _ _=>rfl))))))))))
theorem jY3 (T:Txt K mg):Cal P w K mg base 1 "_law_ties" ["_law_web_here"] jQ9:=
 cal3 T.f_l_ties jZy fun _ _ _ _ _ _ _ hr hu nd=>
  (jJe (jJw (i:=1) nd (jU6 jJf))
   (jJe (jQ3 PassesOwn.never rfl (jZ6 rfl T.n_enumerate rfl (jJa (jJc 0) jJf)) (jU3 rfl (jJv (jJq (i:=2) nd) (jJv (jJq (i:=3) nd) jQa))) (jJi (jQ3 PassesOwn.never rfl (jZ6 rfl T.n_enumerate rfl (jJa (jJc 3) jJf)) (jU3 rfl (jJv (jJq (i:=4) nd) (jJv (jJq (i:=5) nd) jQa))) (jJi (s_if (jK3 (kYu hu) (jQb (jJa (jJc 2) (jJa (jJc 4) jJf))) (jJc 5) (jJl _)) (jJi (jXp (e_bm PySem.F.plainAttrs_list PySem.F.slot_list_append PySem.F.type_list_append jQz (jJc 1) (jJa (jQb (jJa (jQb (jJa (jJc 2) (jJa (jJc 4) jJf))) (jJa (jJc 5) jJf))) jJf)))) jJ7)))))
   (jJi (jKm (jJc 1)))))
theorem jY5 (T:Txt K mg):Cal P w K mg base 1 "_law_crossed" ["_law_web_here","_law_first","_law_second","_law_about"] jQp:=
 cal3 T.f_l_crossed jXi fun _ _ _ _ _ _ _ hr hu nd=>
  (jJe (s_if (jK3 (kYt hr.units) (jUk (jUd hr.units) (e_ix (ix_F hu) (jJc 1) jJh (fun _ _=>rfl)) (e_ix (ix_F hu) (jJc 1) jJh (fun _ _=>rfl)) (jJl _)) (jUk (jUd hr.units) (e_ix (ix_F hu) (jJc 2) jJh (fun _ _=>rfl)) (e_ix (ix_F hu) (jJc 2) jJh (fun _ _=>rfl)) (jJl _)) (jJl _)) (jJi (jKm jU5)) jJ7)
   (jJe (jXg (jJc 2) (jU3 rfl (jJv (jJq (i:=4) nd) (jJv (jJq (i:=5) nd) jQa))))
   (jJe (s_if (jK3 (jUd hr.units) (jJc 3) jJh (jJl _)) (jJi (s_par (i:=4) (j:=5) rfl nd (by decide) (jJa (jJc 5) (jJa (jJc 4) jJf)))) jJ7)
   (jJe (jJw (i:=6) nd kZh)
   (jJe (jQ3 PassesOwn.never rfl (jZ6 rfl T.n_enumerate rfl (jJa (jJc 0) jJf)) (jU3 rfl (jJv (jJq (i:=7) nd) (jJv (jJq (i:=8) nd) jQa))) (jJi (jQ3 PassesOwn.never rfl (jZ6 rfl T.n_enumerate rfl (jJa (jJc 8) jJf)) (jU3 rfl (jJv (jJq (i:=9) nd) (jJv (jJq (i:=10) nd) jQa))) (jJi (jXg (jJc 10) (jYm (jJc 6) (jQb (jJa (jJc 7) (jJa (jJc 9) jJf))) (s_F hu)))))))
   (jJe (jQ3 PassesOwn.never rfl (jY9 (jU6 (jJa (jQb (jJa (e_ix (ix_F hu) (jJc 1) jJh (fun _ _=>rfl)) (jJa (jJc 5) jJf))) (jJa (jQb (jJa (jJc 4) (jJa (e_ix (ix_F hu) (jJc 1) jJh (fun _ _=>rfl)) jJf))) jJf)))) (jU3 rfl (jJv (jJq (i:=11) nd) (jJv (jJq (i:=12) nd) jQa))) (jJe (jXg (jJc 12) (jYm (jJc 6) (jJc 11) (s_F hu)))
   (jJi (jXg (jJc 11) (jYm (jJc 6) (jJc 12) (s_F hu))))))
   (jJe (jJw (i:=13) nd (jUl jYu (by rfl) T.n_tuple rfl (jJa (kZi (mask:=[false,false,false,false,false,false,false,true,false,false,false,false,false,false,false,false]) rfl ⟨rfl,rfl,rfl,rfl,rfl,rfl,rfl⟩ (jKp rfl T.n_range (jJa (jJn jQl (by rfl) T.n_len PySem.boot_len (jJa (jJc 0) jJf)) jJf)) jKf (fun C fp s H=>(jJq (i:=7) nd)) (fun C fp s H=>jUh) (fun C fp s H=>(jUl jYu (by rfl) T.n_tuple rfl (jJa (jVf (mask:=[false,false,false,false,false,false,false,false,false,true,false,false,false,false,false,false]) rfl ⟨rfl,rfl,rfl,rfl,rfl,rfl,rfl⟩ (jKp rfl T.n_range (jJa (jJn jQl (by rfl) T.n_len PySem.boot_len (jJa (e_ix (ix_F hu) (jJc 0) (jJc 7) (fun _ _=>rfl)) jJf)) jJf)) jKf (fun C fp s H=>(jJq (i:=9) nd)) (fun C fp s H=>jUh) (fun C fp s H=>(e_ix (ix_F hu) (jJc 6) (jQb (jJa (jJc 7) (jJa (jJc 9) jJf))) (fun _ _=>rfl)))) jJf)))) jJf)))
   (jJe (jJw (i:=14) nd (jU6 (jJa jJh jJf)))
   (jJe (jJw (i:=15) nd jJh)
   (jJe (kK6 PassesOwn.never (jK3 o_lt (jJc 15) (jJn jQl (by rfl) T.n_len PySem.boot_len (jJa (jJc 14) jJf)) (jJl _)) (jJe (jQ3 PassesOwn.never rfl (jY9 (e_ix (ix_F hu) (jJc 13) (e_ix (ix_F hu) (jJc 14) (jJc 15) (fun _ _=>rfl)) (fun _ _=>rfl))) (jU3 rfl (jJv (jJq (i:=7) nd) (jJv (jJq (i:=9) nd) jQa))) (jJi (s_if (jK3 (jY6 hu) (jJc 7) (jJc 14) (jJl _)) (jJi (jXp (e_bm PySem.F.plainAttrs_list PySem.F.slot_list_append PySem.F.type_list_append jQz (jJc 14) (jJa (jJc 7) jJf)))) jJ7)))
   (jJi (jJw (i:=15) nd (e_op o_addF (jJc 15) jJh)))))
   (jJi (jKm (jZ9 (jK3 (jUd hr.units) (jJn jQl (by rfl) T.n_len PySem.boot_len (jJa (jJc 14) jJf)) (jJn jQl (by rfl) T.n_len PySem.boot_len (jJa (jJc 0) jJf)) (jJl _)) (jJc 13) jU5)))))))))))))
theorem kKf (T:Txt K mg):Cal P w K mg base 5 "_law_right" ["_law_web_here","_law_one","_law_other","_law_about"] jUr:=
 cal3 T.f_l_right jYy fun _ _ _ _ _ _ _ hr hu nd=>
  (jJe (jJw (i:=4) nd (jKa (jY3 T) (hr.mono (by decide)) (jJa (jJc 0) jJf)))
   (jJe (jJw (i:=5) nd (jKa (jY5 T) (hr.mono (by decide)) (jJa (jJc 0) (jJa (e_ix (ix_F hu) (jJc 4) (jJc 1) (fun _ _=>rfl)) (jJa (e_ix (ix_F hu) (jJc 4) (jJc 2) (fun _ _=>rfl)) (jJa (jJc 3) jJf))))))
   (jJe (jJw (i:=6) nd jU5)
   (jJe (jJw (i:=7) nd jU5)
   (jJe (s_try (i:=8) (cs:=["NoWeb"]) (fun _ _ h=>h) nd (kYa (sx_set (i:=7) nd (ex_cal (fun _ _ h=>h) (kKh T) (hr.mono (by decide)) (jJa (jJc 0) (jJa (jJc 1) (jJa (jJc 2) (jJa (jJc 3) jJf))))))) (fun a=>(jJi (jJw (i:=6) nd (jJc 8)))) T.t_WebError)
   (jJe (s_if (jK3 kQp (jJc 5) jU5 (jJl _)) (jJi (jKm (jZd (jUk o_notN (jJc 6) jU5 (jJl _)) (kKn (jKa (jY4 T) (hr.mono (by decide)) (jJa (jJc 6) (jJa jJh jJf))))))) jJ7)
   (jJi (jKm (jZd (jUk kQp (jJc 6) jU5 (jJl _)) (kKn (jKa (kQm T) (hr.mono (by decide)) (jJa (jJc 7) (jJa (jJc 5) jJf)))))))))))))
theorem ok_law (T:Txt K mg) {f:Addr} {fd:FuncData} (F:Fun K "law" "law" (top 29) f fd):Fn3 P w K mg base 6 f fd ["_law_script"] kK3:=by
 have S:FnScope N_law ["_law_script"] (jJk (top 29)):=⟨rfl,rfl,rfl,by decide +kernel,rfl,by decide +kernel,by decide +kernel⟩
 refine fn3 F S fun cdv A outer s H E hr=>⟨kJp,?_,kVf⟩
 have hu:=kZb hr
 have nd:=S.nd
 exact (jJe (jQ3 PassesOwn.never rfl (jY9 (jKa (kKg T) (hr.mono (by decide)) (jJa (jJc 0) (jJa jJh jJf)))) (jJq (i:=1) nd) (jJe (jJw (i:=2) nd (e_ix (ix_F hu) (jU6 (jJa (e_op o_addF jJh (jKa (jJy T) (hr.mono (by decide)) (jJa (jJc 1) (jJa jJh jJf)))) (jJa (e_op o_addF jJh (jKa (jJy T) (hr.mono (by decide)) (jJa (jJc 1) (jJa jJh jJf)))) jJf))) (jUl c_int (by rfl) T.n_int rfl (jJa (jUk (jUd hr.units) (jKa (jJy T) (hr.mono (by decide)) (jJa (jJc 1) (jJa jJh jJf))) jJh (jJl _)) jJf)) (fun _ _=>rfl)))
   (jJe (jJw (i:=3) nd (jKa (kVq T) (hr.mono (by decide)) (jJa (jJc 1) (jJa (jJc 2) (jJa (e_op o_addF jJh (jKa (jJy T) (hr.mono (by decide)) (jJa (jJc 1) (jJa jJh jJf)))) jJf)))))
   (jJe (jJw (i:=4) nd (jJn jQl (by rfl) T.n_len PySem.boot_len (jJa (jKa (jY3 T) (hr.mono (by decide)) (jJa (jJc 3) jJf)) jJf)))
   (jJi (jQ3 PassesOwn.never rfl (jKp rfl T.n_range (jJa jJh jJf)) (jJq (i:=5) nd) (jJe (jJw (i:=6) nd (jKa (jJy T) (hr.mono (by decide)) (jJa (jJc 1) (jJa (jJc 4) jJf))))
   (jJe (jJw (i:=7) nd (e_op jXj (e_op o_addF (e_op o_addF (jJc 6) jJh) (jKa (jJy T) (hr.mono (by decide)) (jJa (jJc 1) (jJa (e_op kKj (jJc 4) jJh) jJf)))) (jJc 4)))
   (jJi (s_if (kX7 (kU4 (jJn (c_all rfl) (by rfl) T.n_all rfl (jJa (jVf (mask:=[false,false,false,false,false,false,false,false,true]) rfl ⟨rfl,rfl,rfl,rfl,rfl,rfl,rfl⟩ (jY9 (jQb (jJa jJh (jJa jJh jJf)))) jKf (fun C fp s H=>(jJq (i:=8) nd)) (fun C fp s H=>jUh) (fun C fp s H=>(jKa (kKf T) (hr.mono (by decide)) (jJa (jJc 3) (jJa (jJc 6) (jJa (jJc 7) (jJa (jJc 8) jJf))))))) jJf)))) (jJi (jKm e_bl)) jJ7))))))))))
   (jJi (jKm e_bl)))
def kYb (K:PySem.W.Frag):Sp:=dn K 1 kK3
theorem fn_at {K:PySem.W.Frag} {h:Heap} {mg:Str->Option Value} {x:Str} {i:Nat} {f:Addr} {oc:Value} {od an:Option Addr} {osl:Array (Option Value)} {kV doc pm cdv ct:Value} (X:K.In h) (G:h.Ns mainGlobals mg) (a:PySem.W.nsIn K mainGlobals x=some (some (.ref f)))
  (l:K.lookup f=some ⟨oc,od,.func (PySem.W.fnOf x x (jQv (top i)) (jKg (top i)) (jJk (top i)) .none kV doc pm an cdv ct),osl⟩) (c:PySem.W.codeIn K cdv x=true) (k:PySem.W.keepIn K (.ref f)=true):FnAt K mg x i:=⟨f,_,PySem.W.mg_of X G a,fun_mk l c k⟩
theorem all_mk {l:PySem.W.OpenLaw} {w:World} {K:PySem.W.Frag} {mg:Str->Option Value} {fa:Addr} (hfa:mg "law"=some (.ref fa)) (T:Txt K mg):
  ∃fd:FuncData,(∀(s:Shared) (v:Value),BindsTo s fd ⟨[v],[]⟩ [("_law_script",v)])/\∀base:Heap,K.In base->base.Ns mainGlobals mg->FnOk l.prog w K mg base CX0 6 fa fd ["_law_script"] (kYb K):=by
 obtain⟨f,fd,a,F⟩:=T.f_law
 cases hfa.symm.trans a
 refine⟨fd,fun s v=> ?_,fun base _ _=>ok_law T F⟩
 obtain⟨_,_,kV,doc,pm,an,cdv,ct,_,e,_⟩:=F.ex
 subst e
 exact .of_eq rfl
theorem fr_of {K:PySem.W.Frag} {H:Hp} {a:Addr} {xs:List V} (hO:Only H) (hS:SqL K H a xs):FrL K H a xs:=by
 rcases hS with h | h
 ·rcases h with h | ⟨ob,h⟩
  ·rcases hO a with z | ⟨o,ys,z⟩
   ·rw[z] at h;cases h
   ·rw[z] at h;cases h
  ·exact .inl ⟨ob,h⟩
 ·exact .inr h
theorem jKv {K:PySem.W.Frag} {H:Hp}:∀ns:List Int,Reps K H (jKz ns) (ns.map V.int)
 | []=>rfl
 | n::ns=>⟨_,_,rfl,rfl,jKv ns⟩
theorem walk {l:PySem.W.OpenLaw} {q:Program} {loose:List Str} {XP:(Str->Option Value)->Heap->Prop} {YP:World->Heap->Prop} {d:DefRec} {K:Params->PySem.W.Frag} (hn:l.most=some 63) (hdf:d.params.defaults=[])
  (hY:∀(w:World) (h:Heap),YP w h->(K w.params).In h)
  (F:∀(w:World) (mg:Str->Option Value) (fa:Addr) (h:Heap),(K w.params).In h->h.Ns mainGlobals mg->mg d.name=some (.ref fa)->
   ∃fd:FuncData,(∀(s:Shared) (u:Value),BindsTo s fd ⟨[u],[]⟩ [("_law_script",u)])/\∀base:Heap,(K w.params).In base->base.Ns mainGlobals mg->FnOk l.prog w (K w.params) mg base CX0 6 fa fd ["_law_script"] (kYb (K w.params))):
  PySem.W.WalkO q loose XP YP l.row.toRowW d [] (fun f vs=>PySem.call f vs):=
 L2.walk_of (n:=63) (k:=6) (x:="_law_script") (CX:=fun _=>CX0) (sp:=fun w=>kYb (K w.params)) hn (by decide) hdf ⟨rfl,rfl,by decide,by decide⟩ hY F
  (fun _ _ a ns hl hO hS=>⟨rfl,[.scr (jKz ns)],fun _=>none,⟨_,_,rfl,⟨a,_,rfl,fr_of hO hS,jKv ns⟩,rfl⟩,(fun _ _ h=>nomatch h),ns,rfl,hl,fun G' v H' _ _ r=>r⟩) fun _ _ _ _ _ z=>z
end W
def PySem.W.Fast.tw17294056348678131749 : Unit := ()
def PySem.W.Fast.tw4877534043886599411 : Unit := ()
def PySem.W.Fast.tw3666101137033524768 : Unit := ()
def PySem.W.Fast.tw10186466799861853814 : Unit := ()
def PySem.W.Fast.tw14898170250514660053 : Unit := ()
def PySem.W.Fast.tw5946169096936110483 : Unit := ()
def PySem.W.Fast.tw1057445224759596425 : Unit := ()
def PySem.W.Fast.tw17229188009829665804 : Unit := ()
def PySem.W.Fast.tw12359077616376203720 : Unit := ()
def PySem.W.Fast.tw17562706949766935104 : Unit := ()
def PySem.W.Fast.tw16160400031771501562 : Unit := ()
def PySem.W.Fast.tw10897839318579944052 : Unit := ()
def PySem.W.Fast.tw5572468492779274788 : Unit := ()
def PySem.W.Fast.tw12333323622234390861 : Unit := ()
def PySem.W.Fast.tw6816666270712749769 : Unit := ()
def PySem.W.Fast.tw16644720370645973806 : Unit := ()
def PySem.W.Fast.tw8411333224910355440 : Unit := ()
def PySem.W.Fast.tw15975147920003256236 : Unit := ()
def PySem.W.Fast.tw2009997463317278892 : Unit := ()
def PySem.W.Fast.tw18100649854985137236 : Unit := ()
def PySem.W.Fast.tw8870630742099300300 : Unit := ()
def PySem.W.Fast.tw12462078584201944293 : Unit := ()
def PySem.W.Fast.tw711063128254448605 : Unit := ()
def PySem.W.Fast.tw1041472405252509008 : Unit := ()
def PySem.W.Fast.tw1425968747859345749 : Unit := ()
def PySem.W.Fast.tw5560908041754251290 : Unit := ()
def PySem.W.Fast.tw4235997089193109615 : Unit := ()
def PySem.W.Fast.tw10800141631406042148 : Unit := ()
def PySem.W.Fast.tw16829356539911995529 : Unit := ()
def PySem.W.Fast.tw14014009085976295065 : Unit := ()
def PySem.W.Fast.tw9469796776785563840 : Unit := ()
def PySem.W.Fast.tw13205644463705140492 : Unit := ()
def PySem.W.Fast.tw12330948397429247084 : Unit := ()
def PySem.W.Fast.tw14519740161025862853 : Unit := ()
def PySem.W.Fast.tw10008145082475475002 : Unit := ()
def PySem.W.Fast.tw4478989187552386972 : Unit := ()
def PySem.W.Fast.tw16944694368435047120 : Unit := ()
def PySem.W.Fast.tw4093680529430382342 : Unit := ()
def PySem.W.Fast.tw2775610747705750238 : Unit := ()
def PySem.W.Fast.tw8785864655511946625 : Unit := ()
def PySem.W.Fast.tw14678528000610761965 : Unit := ()
def PySem.W.Fast.tw16789953608806191788 : Unit := ()
def PySem.W.Fast.tw4216908709133861875 : Unit := ()
def PySem.W.Fast.tw11730096657888277120 : Unit := ()
def PySem.W.Fast.tw7633691481187092376 : Unit := ()
def PySem.W.Fast.tw2363617787133138137 : Unit := ()
def PySem.W.Fast.tw18167206610745798004 : Unit := ()
def PySem.W.Fast.tw14144421123853778469 : Unit := ()
def PySem.W.Fast.tw9307948846756772782 : Unit := ()
def PySem.W.Fast.tw7728259970731087609 : Unit := ()
def PySem.W.Fast.tw13470087435545433923 : Unit := ()
def PySem.W.Fast.tw13796559840911195189 : Unit := ()
def PySem.W.Fast.tw7659713350223422774 : Unit := ()
def PySem.W.Fast.tw12961882032491131055 : Unit := ()
def PySem.W.Fast.tw1839573432718424004 : Unit := ()
def PySem.W.Fast.tw12969809592446159897 : Unit := ()
def PySem.W.Fast.tw16913418506615941844 : Unit := ()
def PySem.W.Fast.tw3900669426239466069 : Unit := ()
def PySem.W.Fast.tw4622395872304381075 : Unit := ()
def PySem.W.Fast.tw46855120547188141 : Unit := ()
def PySem.W.Fast.tw18182848341251261386 : Unit := ()
def PySem.W.Fast.tw13920647430186837119 : Unit := ()
def PySem.W.Fast.tw8816438465802556760 : Unit := ()
def PySem.W.Fast.tw6252790289366815830 : Unit := ()
def PySem.W.Fast.tw10372000857436404965 : Unit := ()
def PySem.W.Fast.tw17496353603327653366 : Unit := ()
def PySem.W.Fast.tw1186074371130174580 : Unit := ()
def PySem.W.Fast.tw10186711038908310942 : Unit := ()
def PySem.W.Fast.tw2186363212645721306 : Unit := ()
def PySem.W.Fast.tw3882616326212301003 : Unit := ()
def PySem.W.Fast.tw8424775704624818155 : Unit := ()
def PySem.W.Fast.tw3423415315646813358 : Unit := ()
def PySem.W.Fast.tw16031547699239150330 : Unit := ()
def PySem.W.Fast.tw17893875594915708247 : Unit := ()
def PySem.W.Fast.tw6351235924498731603 : Unit := ()
def PySem.W.Fast.tw18241919445044929393 : Unit := ()
def PySem.W.Fast.tw7685802279669428626 : Unit := ()
def PySem.W.Fast.tw18346721938144273011 : Unit := ()
def PySem.W.Fast.tw17355583939087070588 : Unit := ()
def PySem.W.Fast.tw14059798956564356871 : Unit := ()
def PySem.W.Fast.tw8629930046269855596 : Unit := ()
def PySem.W.Fast.tw15688941279288072357 : Unit := ()
def PySem.W.Fast.tw16362900358262074431 : Unit := ()
def PySem.W.Fast.tw9593423795826454350 : Unit := ()
def PySem.W.Fast.tw6199784616566918747 : Unit := ()
def PySem.W.Fast.tw8394738145288905294 : Unit := ()
def PySem.W.Fast.tw12035873177490749317 : Unit := ()
def PySem.W.Fast.tw6108380950794741765 : Unit := ()
def PySem.W.Fast.tw8975295205855456475 : Unit := ()
def PySem.W.Fast.tw8576773501376328494 : Unit := ()
def PySem.W.Fast.tw10643314231934251798 : Unit := ()
def PySem.W.Fast.tw17478487955190345787 : Unit := ()
def PySem.W.Fast.tw13723976798753260017 : Unit := ()
def PySem.W.Fast.tw16117102591659544914 : Unit := ()
def PySem.W.Fast.tw4267494774782004075 : Unit := ()
def PySem.W.Fast.tw10979560710186522105 : Unit := ()
def PySem.W.Fast.tw6242432114909466210 : Unit := ()
def PySem.W.Fast.tw2944147783722203784 : Unit := ()
def PySem.W.Fast.tw18061808632052811397 : Unit := ()
def PySem.W.Fast.tw5990734447064912840 : Unit := ()
def PySem.W.Fast.tw11290894880656998307 : Unit := ()
def PySem.W.Fast.tw10058616052104150318 : Unit := ()
def PySem.W.Fast.tw17606539680840248831 : Unit := ()
def PySem.W.Fast.tw5381645766515434768 : Unit := ()
def PySem.W.Fast.tw6116466382215652476 : Unit := ()
def PySem.W.Fast.tw6682121855861374721 : Unit := ()
def PySem.W.Fast.tw15663415345073383573 : Unit := ()
def PySem.W.Fast.tw3040680042004221077 : Unit := ()
def PySem.W.Fast.tw10947497553861795033 : Unit := ()
def PySem.W.Fast.tw18241626326954335769 : Unit := ()
def PySem.W.Fast.tw8808694912109864886 : Unit := ()
def PySem.W.Fast.tw6184244284139205112 : Unit := ()
def PySem.W.Fast.tw18212546796314789657 : Unit := ()
def PySem.W.Fast.tw10933835729222676560 : Unit := ()
def PySem.W.Fast.tw13735281500285446730 : Unit := ()
def PySem.W.Fast.tw2393535095831936380 : Unit := ()
def PySem.W.Fast.tw9305562419485517341 : Unit := ()
def PySem.W.Fast.tw8738599831020378492 : Unit := ()
def PySem.W.Fast.tw5887428313404160819 : Unit := ()
def PySem.W.Fast.tw2161328833151335049 : Unit := ()
def PySem.W.Fast.tw17442158734755043059 : Unit := ()
open PySem PySem.W PyProof.Rows
set_option maxRecDepth 100000 in
set_option maxHeartbeats 0 in
theorem PySem.Challenge.cw_stonewalker_k53_two_ties_crossed_holds : PySem.Challenge.rw_stonewalker_k53_two_ties_crossed.Holds := by
 w_on;o_law;k_head;(case hw=>w_witness2)
 k_fill
 refine W.walk (l:=PySem.Challenge.rw_stonewalker_k53_two_ties_crossed) rfl rfl (fun w h Y=>PySem.W.kIn_of Y) ?F
 case F=>
  intro w mg fa h KX G hmg
  refine W.all_mk hmg ?T
  constructor
  iterate 14 (refine PySem.W.mg_none_of KX G ?_;k_is)
  (refine' L3.exc_mk KX G ?x0_a ?x0_q;(case x0_a=>k_is);(case x0_q=>k_exc))
  (refine' L3.rel1 ⟨?x1_D,?x1_vs,?x1_a,⟨?x1_k1,?x1_k2,?x1_k3,?x1_k4,?x1_k5,Option.isSome_iff_exists.mpr ((Option.bind_eq_some_iff.mp ?x1_k5).imp fun _ h=>h.1)⟩,.cons (.inl (PySem.W.mg_of KX G ?z1_NoStone)) (.nil),?x1_q⟩;(case x1_a=>unfold L3.CN;k_is);(case z1_NoStone=>k_is);(case x1_k1=>k_is);(case x1_k2=>k_is);(case x1_k3=>k_is);(case x1_k4=>k_is);(case x1_k5=>k_is);(case x1_q=>kit_is))
  (refine' L3.clsv_own KX G ?x2_b;(case x2_b=>k_is))
  (refine' L3.rel1 ⟨?x3_D,?x3_vs,?x3_a,⟨?x3_k1,?x3_k2,?x3_k3,?x3_k4,?x3_k5,Option.isSome_iff_exists.mpr ((Option.bind_eq_some_iff.mp ?x3_k5).imp fun _ h=>h.1)⟩,.cons (.inl (PySem.W.mg_of KX G ?z3_NoDoor)) (.nil),?x3_q⟩;(case x3_a=>unfold L3.CN;k_is);(case z3_NoDoor=>k_is);(case x3_k1=>k_is);(case x3_k2=>k_is);(case x3_k3=>k_is);(case x3_k4=>k_is);(case x3_k5=>k_is);(case x3_q=>kit_is))
  (refine' L3.clsv_own KX G ?x4_b;(case x4_b=>k_is))
  (refine' L3.rel1 ⟨?x5_D,?x5_vs,?x5_a,⟨?x5_k1,?x5_k2,?x5_k3,?x5_k4,?x5_k5,Option.isSome_iff_exists.mpr ((Option.bind_eq_some_iff.mp ?x5_k5).imp fun _ h=>h.1)⟩,.cons (.inl (PySem.W.mg_of KX G ?z5_NoWeb)) (.nil),?x5_q⟩;(case x5_a=>unfold L3.CN;k_is);(case z5_NoWeb=>k_is);(case x5_k1=>k_is);(case x5_k2=>k_is);(case x5_k3=>k_is);(case x5_k4=>k_is);(case x5_k5=>k_is);(case x5_q=>kit_is))
  (refine' L3.clsv_own KX G ?x6_b;(case x6_b=>k_is))
  (refine' L3.rel1 ⟨?x7_D,?x7_vs,?x7_a,⟨?x7_k1,?x7_k2,?x7_k3,?x7_k4,?x7_k5,Option.isSome_iff_exists.mpr ((Option.bind_eq_some_iff.mp ?x7_k5).imp fun _ h=>h.1)⟩,.cons (.inl (PySem.W.mg_of KX G ?z7_NoMark)) (.nil),?x7_q⟩;(case x7_a=>unfold L3.CN;k_is);(case z7_NoMark=>k_is);(case x7_k1=>k_is);(case x7_k2=>k_is);(case x7_k3=>k_is);(case x7_k4=>k_is);(case x7_k5=>k_is);(case x7_q=>kit_is))
  (refine' L3.clsv_own KX G ?x8_b;(case x8_b=>k_is))
  (refine' L3.rel1 ⟨?x9_D,?x9_vs,?x9_a,⟨?x9_k1,?x9_k2,?x9_k3,?x9_k4,?x9_k5,Option.isSome_iff_exists.mpr ((Option.bind_eq_some_iff.mp ?x9_k5).imp fun _ h=>h.1)⟩,.cons (.inl (PySem.W.mg_of KX G ?z9_Clash)) (.nil),?x9_q⟩;(case x9_a=>unfold L3.CN;k_is);(case z9_Clash=>k_is);(case x9_k1=>k_is);(case x9_k2=>k_is);(case x9_k3=>k_is);(case x9_k4=>k_is);(case x9_k5=>k_is);(case x9_q=>kit_is))
  (refine' L3.clsv_own KX G ?x10_b;(case x10_b=>k_is))
  (refine' L3.rel1 ⟨?x11_D,?x11_vs,?x11_a,⟨?x11_k1,?x11_k2,?x11_k3,?x11_k4,?x11_k5,Option.isSome_iff_exists.mpr ((Option.bind_eq_some_iff.mp ?x11_k5).imp fun _ h=>h.1)⟩,.cons (.inl (PySem.W.mg_of KX G ?z11_TooMany)) (.nil),?x11_q⟩;(case x11_a=>unfold L3.CN;k_is);(case z11_TooMany=>k_is);(case x11_k1=>k_is);(case x11_k2=>k_is);(case x11_k3=>k_is);(case x11_k4=>k_is);(case x11_k5=>k_is);(case x11_q=>kit_is))
  (refine' L3.clsv_own KX G ?x12_b;(case x12_b=>k_is))
  (refine' L3.rel1 ⟨?x13_D,?x13_vs,?x13_a,⟨?x13_k1,?x13_k2,?x13_k3,?x13_k4,?x13_k5,Option.isSome_iff_exists.mpr ((Option.bind_eq_some_iff.mp ?x13_k5).imp fun _ h=>h.1)⟩,.cons (.inl (PySem.W.mg_of KX G ?z13_BadRow)) (.nil),?x13_q⟩;(case x13_a=>unfold L3.CN;k_is);(case z13_BadRow=>k_is);(case x13_k1=>k_is);(case x13_k2=>k_is);(case x13_k3=>k_is);(case x13_k4=>k_is);(case x13_k5=>k_is);(case x13_q=>kit_is))
  (refine' L3.clsv_own KX G ?x14_b;(case x14_b=>k_is))
  (refine' L3.rel1 ⟨?x15_D,?x15_vs,?x15_a,⟨?x15_k1,?x15_k2,?x15_k3,?x15_k4,?x15_k5,Option.isSome_iff_exists.mpr ((Option.bind_eq_some_iff.mp ?x15_k5).imp fun _ h=>h.1)⟩,.cons (.inl (PySem.W.mg_of KX G ?z15_NotWhole)) (.nil),?x15_q⟩;(case x15_a=>unfold L3.CN;k_is);(case z15_NotWhole=>k_is);(case x15_k1=>k_is);(case x15_k2=>k_is);(case x15_k3=>k_is);(case x15_k4=>k_is);(case x15_k5=>k_is);(case x15_q=>kit_is))
  (refine' L3.clsv_own KX G ?x16_b;(case x16_b=>k_is))
  (refine' L3.rel1 ⟨?x17_D,?x17_vs,?x17_a,⟨?x17_k1,?x17_k2,?x17_k3,?x17_k4,?x17_k5,Option.isSome_iff_exists.mpr ((Option.bind_eq_some_iff.mp ?x17_k5).imp fun _ h=>h.1)⟩,.cons (.inr ⟨PySem.W.mg_none_of KX G ?z17_ValueError,rfl⟩) (.nil),?x17_q⟩;(case x17_a=>unfold L3.CN;k_is);(case z17_ValueError=>k_is);(case x17_k1=>k_is);(case x17_k2=>k_is);(case x17_k3=>k_is);(case x17_k4=>k_is);(case x17_k5=>k_is);(case x17_q=>kit_is))
  (refine' L3.clsv_blt KX G ?x18_b rfl;(case x18_b=>k_is))
  (refine' L3.sub1 (L3.exsub_mk KX G ?x19_a ?x19_b ?x19_q);(case x19_a=>k_is);(case x19_b=>k_is);(case x19_q=>kts_exm))
  iterate 16 (refine' W.fn_at KX G ?a ?l ?c ?k;(case a=>k_is);(case l=>k_is);(case c=>k_is);(case k=>k_is))
