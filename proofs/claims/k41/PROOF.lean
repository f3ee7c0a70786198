
import PyProof.Rows.All
import Wide.All
import OpenK.AllK
import Wide.FinOn
import Lean
import PyProof.EqAt
import PyProof.EqKinds
import PyProof.TupleCall
import PySem.Challenge.RW_stonewalker_k41_even_webs
local macro_rules
 | `(tactic| omega) => `(tactic| lia)
set_option Elab.async false
set_option linter.all false
set_option maxRecDepth 100000
noncomputable section
namespace L2
open PySem PySem.Spec PyProof.Rows
abbrev Key:=Sum Int Str
def jV8:Key->Value->Bool
 | .inl k,v=>Value.isInt k v
 | .inr x,v=>Value.isStrOf x v
def keyH (w:World):Key->Int
 | .inl k=>hashInt k
 | .inr x=>hashStr w x
theorem jJn:∀ {k:Key} {v:Value},jV8 k v=true->(∃i t,k=Sum.inl i/\v=Value.int i t)\/(∃x t,k=Sum.inr x/\v=Value.str x t)
 | .inl i,v,h=>by
  obtain⟨t,e⟩:=Value.isInt_shape (k:=i) (v:=v) h
  exact .inl ⟨i,t,rfl,e⟩
 | .inr x,v,h=>by
  obtain⟨t,e⟩:=Value.isStrOf_shape (x:=x) (v:=v) h
  exact .inr ⟨x,t,rfl,e⟩
theorem kYd (i:Int) (t:Tok):jV8 (.inl i) (.int i t)=true:=by simp[jV8,Value.isInt]
theorem kYc (x:Str) (t:Tok):jV8 (.inr x) (.str x t)=true:=by simp[jV8,Value.isStrOf]
theorem key_ll (a b:Int):decide ((Sum.inl a:Key)=Sum.inl b)=(a == b):=by
 by_cases e:a=b
 ·subst e;simp
 ·have h:¬ (Sum.inl a:Key)=Sum.inl b:=fun q=>e (Sum.inl.inj q)
  rw[decide_eq_false h]
  exact (beq_eq_false_iff_ne.mpr e).symm
theorem key_rr (a b:Str):decide ((Sum.inr a:Key)=Sum.inr b)=decide (a=b):=by
 by_cases e:a=b
 ·subst e;simp
 ·have h:¬ (Sum.inr a:Key)=Sum.inr b:=fun q=>e (Sum.inr.inj q)
  rw[decide_eq_false h,decide_eq_false e]
theorem key_lr (a:Int) (b:Str):decide ((Sum.inl a:Key)=Sum.inr b)=false:=decide_eq_false (fun q=>nomatch q)
theorem key_rl (a:Str) (b:Int):decide ((Sum.inr a:Key)=Sum.inl b)=false:=decide_eq_false (fun q=>nomatch q)
noncomputable def jJw (prog:Program) (w:World):PySem.KeyKind prog w Key where
 is:=jV8
 hash:=keyH w
 inj:=fun v a b ha hb=>by
  rcases jJn ha with ⟨i,t,rfl,rfl⟩ | ⟨x,t,rfl,rfl⟩
  ·rcases jJn hb with ⟨j,u,rfl,e⟩ | ⟨y,u,rfl,e⟩
   ·injection e with e1 _;rw[e1]
   ·exact nomatch e
  ·rcases jJn hb with ⟨j,u,rfl,e⟩ | ⟨y,u,rfl,e⟩
   ·exact nomatch e
   ·injection e with e1 _;rw[e1]
 byValue:=fun k v h=>by
  rcases jJn h with ⟨i,t,rfl,rfl⟩ | ⟨x,t,rfl,rfl⟩<;>rfl
 pyHash:=fun hv h=>by
  rcases jJn hv with ⟨i,t,rfl,rfl⟩ | ⟨x,t,rfl,rfl⟩
  ·exact wpAny_pyHash_int h
  ·exact wpAny_pyHash_str h
 eqBool:=fun hu hv h=>by
  rcases jJn hu with ⟨i,t,rfl,rfl⟩ | ⟨x,t,rfl,rfl⟩
  ·rcases jJn hv with ⟨j,u,rfl,rfl⟩ | ⟨y,u,rfl,rfl⟩
   ·rw[key_ll] at h;exact wpAny_eqBool_int h
   ·rw[key_lr] at h;exact SeqAt.EqAt.int_str i t y u _ _ _ _ h
  ·rcases jJn hv with ⟨j,u,rfl,rfl⟩ | ⟨y,u,rfl,rfl⟩
   ·rw[key_rl] at h;exact SeqAt.EqAt.str_int x t j u _ _ _ _ h
   ·rw[key_rr] at h;exact wpAny_eqBool_str h
 «strs» :=fun k x t v h=>by
  rcases jJn h with ⟨i,u,rfl,e⟩ | ⟨y,u,rfl,e⟩
  ·exact nomatch e
  ·injection e with e1 _
   subst e1
   cases v<;>rfl
theorem jYl (prog:Program) (w:World) (i:Int) (t:Tok):(jJw prog w).is (.inl i) (.int i t)=true:=kYd i t
theorem kQg (prog:Program) (w:World) (x:Str) (t:Tok):(jJw prog w).is (.inr x) (.str x t)=true:=kYc x t
end L2
set_option synthInstance.maxSize 1000
namespace L2
open PySem PySem.Spec PyProof.Rows
structure KeyV (prog:Program) (w:World) (K:Type) [DecidableEq K] (c:Nat) where
 is:Heap->K->Value->Prop
 hash:K->Int
 draws:K->Nat
 inj:∀ {h:Heap} {v:Value} {x y:K},is h x v->is h y v->x=y
 keeps:∀ {h h':Heap} {k:K} {v:Value} {d:Addr} {o:Obj} {es:Array DictEntry} {ep:Nat},is h k v->h.get? d=some o->o.data= .dict es ep->Heap.SameBut d h h'->is h' k v
 hashed:∀ {A:Around} {E:Value->Shared->Prop} {s:Shared} {k:K} {v:Value} {Q:Int->Shared->Prop},A.units+c<cLine->is s.heap k v->Q (hash k) {s with toks:=s.toks+draws k}->wpAny (model prog w) A (PySem.pyHash v) Q E s
 eqAt:∀ {A:Around} {s:Shared} {x y:K} {u v:Value},A.units+c<cLine->is s.heap x u->is s.heap y v->SeqAt.EqAt A s u v (decide (x=y))
 quiet:∀ {A:Around} {E:Value->Shared->Prop} {s:Shared} {k:K} {v:Value} {Q:Bool->Shared->Prop} (n:Nat),c<=n->is s.heap k v->Q true s->wpAny (model prog w) A (eqIsQuiet n v) Q E s
noncomputable def jZq (prog:Program) (w:World):KeyV prog w Key 0 where
 is:=fun _ k v=>jV8 k v=true
 hash:=keyH w
 draws:=fun _=>1
 inj:=fun hx hy=>(jJw prog w).inj _ _ _ hx hy
 keeps:=fun x _ _ _=>x
 hashed:=fun _ hv h=>(jJw prog w).pyHash hv h
 eqAt:=fun _ hx hy prog' w' _ _ h=>(jJw prog' w').eqBool hx hy h
 quiet:=fun n _ hv h=>by rw[eqIsQuiet_byValue n ((jJw prog w).byValue _ _ hv)];exact wpAny_pure h
section
variable {prog:Program} {w:World} {K:Type} [DecidableEq K] {c:Nat}
inductive ItemsV (V:KeyV prog w K c) (h:Heap):List K->List Value->Prop
 | nil:ItemsV V h [] []
 | cons {k:K} {v:Value} {ks:List K} {vs:List Value}:V.is h k v->ItemsV V h ks vs->ItemsV V h (k::ks) (v::vs)
theorem ItemsV.inj {V:KeyV prog w K c} {h:Heap} {x:List K} {vs:List Value} (hx:ItemsV V h x vs):∀ {y:List K},ItemsV V h y vs->x=y:=by
 induction hx with
 | nil=>intro y hy;cases hy;rfl
 | cons a _ ih=>intro y hy;cases hy with | cons b t=>rw[V.inj a b,ih t]
theorem ItemsV.length {V:KeyV prog w K c} {h:Heap} {x:List K} {vs:List Value} (hx:ItemsV V h x vs):x.length=vs.length:=by
 induction hx with
 | nil=>rfl
 | cons _ _ ih=>simp[ih]
theorem ItemsV.get {V:KeyV prog w K c} {h:Heap} {x:List K} {vs:List Value} (hx:ItemsV V h x vs):∀ {j:Nat} {v:Value},vs[j]? =some v->∃k,x[j]? =some k/\V.is h k v:=by
 induction hx with
 | nil=>intro j v e;simp at e
 | cons a _ ih=>
  intro j v e
  cases j with
  | zero=>simp at e;subst e;exact⟨_,rfl,a⟩
  | succ j=>obtain⟨k,h1,h2⟩:=ih (j:=j) (v:=v) (by simpa using e);exact⟨k,by simpa using h1,h2⟩
theorem ItemsV.keeps {V:KeyV prog w K c} {h h':Heap} {x:List K} {vs:List Value} {d:Addr} {o:Obj} {es:Array DictEntry} {ep:Nat} (hx:ItemsV V h x vs) (ho:h.get? d=some o) (hd:o.data= .dict es ep) (hs:Heap.SameBut d h h'):ItemsV V h' x vs:=by
 induction hx with
 | nil=>exact .nil
 | cons a _ ih=>exact .cons (V.keeps a ho hd hs) ih
noncomputable def jY4 (V:KeyV prog w K c) (h:Heap) (ks:List K) (v:Value):Prop:=∃(a:Addr) (o:Obj) (items:Array Value) (n:Nat),v= .ref a/\h.get? a=some o/\o.cls= .type "tuple"/\o.data= .seq items n/\ItemsV V h ks items.toList
theorem all_eq:∀(x y:List K),((List.range (min x.length y.length)).all (fun j=>decide (x[j]? =y[j]?))&&x.length == y.length)=decide (x=y):=by
 intro x y
 by_cases e:x=y
 ·subst e;simp
 ·rw[decide_eq_false e,Bool.and_eq_false_iff]
  by_cases l:x.length=y.length
  ·left
   rw[List.all_eq_false]
   have:∃j:Nat,x[j]? ≠y[j]? :=by
    apply Classical.byContradiction
    intro q
    exact e (List.ext_getElem? fun j=>Classical.byContradiction fun z=>q ⟨j,z⟩)
   obtain⟨j,hj⟩:=this
   refine⟨j,List.mem_range.mpr ?_,by simpa using hj⟩
   rcases Nat.lt_or_ge j (min x.length y.length) with z | z
   ·exact z
   ·exact absurd (by rw[List.getElem?_eq_none (by omega),List.getElem?_eq_none (by omega)]) hj
  ·right;simpa using l
noncomputable def jUi (V:KeyV prog w K c):KeyV prog w (List K) (c+2) where
 is:=jY4 V
 hash:=fun ks=>reduceHash (Builtin.Tuple.tupleHashOf (ks.map V.hash))
 draws:=fun ks=>(ks.map V.draws).sum+1
 inj:=by
  rintro h v x y ⟨a,o,items,n,rfl,ho,_,hd,hi⟩ ⟨a',o',items',n',e,ho',_,hd',hi'⟩
  cases e
  rw[ho] at ho';cases ho'
  rw[hd] at hd';cases hd'
  exact hi.inj hi'
 keeps:=by
  rintro h h' k v d o es ep ⟨a,o',items,n,rfl,ho',hc,hd',hi⟩ ho hd hs
  have ne:a≠d:=by
   rintro rfl
   rw[ho] at ho';cases ho'
   rw[hd] at hd';cases hd'
  exact⟨a,o',items,n,rfl,(hs.2 a ne).trans ho',hc,hd',hi.keeps ho hd hs⟩
 hashed:=by
  rintro A E s ks v Q hu ⟨a,o,items,n,rfl,ho,hc,hd,hi⟩ h
  refine PySem.W.pyHash_slot (T:="tuple") ⟨o,ho,hc⟩ F.slot_tuple_hash F.entry_tuple_hash (F.args_tuple_hash_1 _) (beq_builtin_none _) (.inr (by omega)) ?_
  refine (show wpAny _ _ (Builtin.Tuple.tupleItemsOf (.ref a) >>= _) _ _ s from wpAny_bind (wpAny_tupleItemsOf ho hd (wpAny_bind ?_)))
  rw[<-Array.forIn_toList]
  refine wpAny_forIn_list _ (fun rest (b:Array Int) z=>∃done left,ks=done++left/\ItemsV V s.heap left rest/\b.toList=done.map V.hash/\z={s with toks:=s.toks+(done.map V.draws).sum}) _ ?_ ?_ _ _ ⟨[],ks,rfl,hi,rfl,rfl⟩
  ·rintro x rest b z ⟨done,left,rfl,hl,hb,rfl⟩
   cases hl with
   | @cons k _ ks' _ h1 hl'=>
    refine wpAny_bind (V.hashed (by rw[Around.in1_units];omega) h1 ?_)
    first
     | exact wpAny_pure ⟨done++[k],ks',by simp,hl',by simp[hb],(by simp[Nat.add_assoc])⟩
     | exact wpAny_bind (wpAny_pure (wpAny_pure ⟨done++[k],ks',by simp,hl',by simp[hb],(by simp[Nat.add_assoc])⟩))
  ·rintro b z ⟨done,left,rfl,hl,hb,rfl⟩
   cases hl
   rw[List.append_nil] at h
   refine (show wpAny _ _ (retInt (Builtin.Tuple.tupleHashOf b.toList)) _ _ _ from ?_)
   rw[hb]
   exact wpAny_bind (wpAny_mkInt (wpAny_pure ⟨_,_,rfl,by simpa[Nat.add_assoc] using h⟩))
 eqAt:=by
  rintro A s x y u v hu ⟨a,o,items,n,rfl,ho,hc,hd,hi⟩ ⟨a',o',items',n',rfl,ho',hc',hd',hi'⟩
  by_cases e:a=a'
  ·subst e
   rw[ho] at ho';cases ho'
   rw[hd] at hd';cases hd'
   rw[hi.inj hi',decide_eq_true rfl]
   exact SeqAt.EqAt.same _
  ·have R:=SeqAt.RcAt.tuples (A:=A) (s:=s) (l:=a) (b:=a') (e:=fun j=>decide (x[j]? =y[j]?)) ⟨o,ho,hc,n,hd⟩ ⟨o',ho',hc',n',hd'⟩ (by omega) (fun j j1 j2=> ?_)
   ·have l1:=hi.length
    have l2:=hi'.length
    rw[<-all_eq x y,l1,l2]
    have R':=SeqAt.EqAt.of_refs e R
    simpa using R'
   ·obtain⟨k,h1,h2⟩:=hi.get (j:=j) (v:=items[j]) (by simp[j1])
    obtain⟨k',h1',h2'⟩:=hi'.get (j:=j) (v:=items'[j]) (by simp[j2])
    have:=V.eqAt (A:=A.in1) (s:=s) (by rw[Around.in1_units];omega) h2 h2'
    rw[h1,h1']
    simpa using this
 quiet:=by
  rintro A E s ks v Q n hn ⟨a,o,items,m,rfl,ho,hc,hd,hi⟩ h
  obtain⟨n,rfl⟩:∃nn,n=nn+1:=⟨n-1,by omega⟩
  have hT:s.TypeIs (.ref a) "tuple":=⟨o,ho,hc⟩
  unfold eqIsQuiet;refine wpAny_bind (wpAny_specialOf hT F.slot_tuple_eq.lookup ?_)
  refine (show wpAny _ _ (isInstance (.ref a) (.type "tuple") >>= _) _ _ s from wpAny_bind (wpAny_isInstance hT isSubtype_tuple_tuple ?_))
  simp only[if_false,Bool.not_true,Bool.false_eq_true]
  refine wpAny_bind (wpAny_seqItems ho hd (wpAny_bind ?_))
  refine (show wpAny _ _ (forIn items _ _) _ _ s from ?_)
  rw[<-Array.forIn_toList]
  refine wpAny_forIn_list _ (fun rest r z=>r.1=none/\z=s/\∃left,ItemsV V s.heap left rest) _ ?_ ?_ _ _ ⟨rfl,rfl,ks,hi⟩
  ·rintro x rest r z ⟨hr,rfl,left,hl⟩
   cases hl with
   | cons h1 hl'=>
    refine wpAny_bind (V.quiet n (by omega) h1 ?_)
    simp only[if_false,Bool.not_true,Bool.false_eq_true]
    exact wpAny_pure ⟨rfl,rfl,_,hl'⟩
  ·rintro⟨r1,r2⟩ z ⟨hr,rfl,_⟩
   simp only at hr;subst hr
   exact wpAny_pure h
theorem qUu {α β:Type} [DecidableEq α] [DecidableEq β] (a b:α):decide ((Sum.inl a:α ⊕ β)=Sum.inl b)=decide (a=b):=by
 by_cases e:a=b
 ·simp[e]
 ·rw[decide_eq_false e,decide_eq_false fun z=>e (Sum.inl.inj z)]
theorem qUt {α β:Type} [DecidableEq α] [DecidableEq β] (a b:β):decide ((Sum.inr a:α ⊕ β)=Sum.inr b)=decide (a=b):=by
 by_cases e:a=b
 ·simp[e]
 ·rw[decide_eq_false e,decide_eq_false fun z=>e (Sum.inr.inj z)]
noncomputable def kZs (V:KeyV prog w K c):KeyV prog w (Key ⊕ List K) (c+2) where
 is:=fun h k v=>match k with
  | .inl k=>jV8 k v=true
  | .inr ks=>jY4 V h ks v
 hash:=fun k=>match k with
  | .inl k=>keyH w k
  | .inr ks=>(jUi V).hash ks
 draws:=fun k=>match k with
  | .inl _=>1
  | .inr ks=>(jUi V).draws ks
 inj:=by
  rintro h v (x | x) (y | y) hx hy
  ·rw[(jJw prog w).inj _ _ _ hx hy]
  ·obtain⟨a,_,_,_,rfl,_⟩:=hy
   rcases jJn hx with ⟨i,t,_,e⟩ | ⟨i,t,_,e⟩<;>cases e
  ·obtain⟨a,_,_,_,rfl,_⟩:=hx
   rcases jJn hy with ⟨i,t,_,e⟩ | ⟨i,t,_,e⟩<;>cases e
  ·rw[(jUi V).inj hx hy]
 keeps:=by
  rintro h h' (k | k) v d o es ep hx ho hd hs
  ·exact hx
  ·exact (jUi V).keeps hx ho hd hs
 hashed:=by
  rintro A E s (k | k) v Q hu hx h
  ·exact (jJw prog w).pyHash hx h
  ·exact (jUi V).hashed hu hx h
 eqAt:=by
  rintro A s (x | x) (y | y) u v hu hx hy
  ·rw[qUu]
   exact (jZq prog w).eqAt (by omega) hx hy
  ·rw[decide_eq_false fun z=>nomatch z]
   obtain⟨a,o,items,n,rfl,ho,hc,hd,_⟩:=hy
   rcases jJn hx with ⟨i,t,_,rfl⟩ | ⟨i,t,_,rfl⟩
   ·exact SeqAt.EqAt.int_tuple i t ⟨o,ho,hc,n,hd⟩ (by omega)
   ·exact SeqAt.EqAt.str_tuple i t ⟨o,ho,hc,n,hd⟩ (by omega)
  ·rw[decide_eq_false fun z=>nomatch z]
   obtain⟨a,o,items,n,rfl,ho,hc,hd,_⟩:=hx
   rcases jJn hy with ⟨i,t,_,rfl⟩ | ⟨i,t,_,rfl⟩
   ·exact SeqAt.EqAt.tuple_int i t ⟨o,ho,hc,n,hd⟩ (by omega)
   ·exact SeqAt.EqAt.tuple_str i t ⟨o,ho,hc,n,hd⟩ (by omega)
  ·rw[qUt]
   exact (jUi V).eqAt hu hx hy
 quiet:=by
  rintro A E s (k | k) v Q n hn hx h
  ·exact (jZq prog w).quiet n (Nat.zero_le _) hx h
  ·exact (jUi V).quiet n hn hx h
end
abbrev K1:=Key ⊕ List Key
abbrev K2:=Key ⊕ List K1
abbrev TKey:=List K2
def vk1 (prog:Program) (w:World):KeyV prog w K1 2:=kZs (jZq prog w)
def vk2 (prog:Program) (w:World):KeyV prog w K2 4:=kZs (vk1 prog w)
noncomputable def jJk (prog:Program) (w:World):HeapKind prog w TKey where
 is:=fun h ks a=>(jUi (vk2 prog w)).is h ks (.ref a)
 hash:=(jUi (vk2 prog w)).hash
 draws:=(jUi (vk2 prog w)).draws
 room:=fun A=>A.units+6<cLine
 inj:=fun hx hy=>(jUi (vk2 prog w)).inj hx hy
 keeps:=fun x ho hd hs=>(jUi (vk2 prog w)).keeps x ho hd hs
 pyHash:=fun hu hk h=>(jUi (vk2 prog w)).hashed hu hk h
 eqBool:=fun hu hx hy h=>(jUi (vk2 prog w)).eqAt hu hx hy _ _ _ _ h
 quiet:=fun hk h=>(jUi (vk2 prog w)).quiet 8 (by decide) hk h
theorem jJ4 {prog:Program} {w:World} {A:Around} (hu:A.units+20<cLine):(jJk prog w).room A.in1:=by
 show A.in1.units+6<cLine
 rw[Around.in1_units];omega
inductive V where
 | non | bl (b:Bool) | int (i:Int) | str (x:Str) | byt (b:Array UInt8) | flt (b:UInt64) | ref (a:Addr) | ty (n:String)
 deriving DecidableEq
noncomputable def RelV:V->Value->Prop
 | .non,u=>u=Value.none
 | .bl b,u=>u=Value.bool b
 | .int i,u=>∃t,u=Value.int i t
 | .str x,u=>∃t,u=Value.str x t
 | .byt b,u=>∃t,u=Value.bytes b t
 | .flt b,u=>∃t,u=Value.float b t
 | .ref a,u=>u=Value.ref a
 | .ty n,u=>u=Value.type n
abbrev Vals:List V->List Value->Prop:=Paired RelV
theorem Vals.length {xs:List V} {us:List Value} (r:Vals xs us):xs.length=us.length:=Paired.length r
theorem Vals.get:∀ {xs:List V} {us:List Value} {i:Nat} {x:V},Vals xs us->xs[i]? =some x->∃u,us[i]? =some u/\RelV x u
 | _,_,_,_,.nil,e=>by simp at e
 | _,_,0,_,.cons r _,e=>by simp at e;subst e;exact⟨_,rfl,r⟩
 | _,_,i+1,x,.cons _ t,e=>by
  obtain⟨u,h1,h2⟩:=Vals.get (i:=i) (x:=x) t (by simpa using e)
  exact⟨u,by simpa using h1,h2⟩
theorem Vals.set {x:V} {u:Value} (r:RelV x u):∀ {xs:List V} {us:List Value} (i:Nat),Vals xs us->Vals (xs.set i x) (us.set i u)
 | _,_,_,.nil=> .nil
 | _,_,0,.cons _ t=> .cons r t
 | _,_,i+1,.cons q t=> .cons q (Vals.set r i t)
theorem Vals.append:∀ {xs ys:List V} {us ws:List Value},Vals xs us->Vals ys ws->Vals (xs++ys) (us++ws)
 | _,_,_,_,.nil,s=>s
 | _,_,_,_,.cons r t,s=> .cons r (Vals.append t s)
theorem Vals.take:∀ {xs:List V} {us:List Value} (n:Nat),Vals xs us->Vals (xs.take n) (us.take n)
 | _,_,0,_=> .nil
 | _,_,_+1,.nil=> .nil
 | _,_,n+1,.cons r t=> .cons r (Vals.take n t)
theorem Vals.drop:∀ {xs:List V} {us:List Value} (n:Nat),Vals xs us->Vals (xs.drop n) (us.drop n)
 | _,_,0,r=>r
 | _,_,_+1,.nil=> .nil
 | _,_,n+1,.cons _ t=>Vals.drop n t
def RelO:Option V->Option Value->Prop
 | some v,some u=>RelV v u
 | none,none=>True
 | _,_=>False
def KV {κ:Type}:List (κ×V)->List (κ×Value)->Prop:=Paired fun (p:κ×V) (q:κ×Value)=>p.1=q.1/\RelV p.2 q.2
def kV:Key->V
 | .inl i=> .int i
 | .inr x=> .str x
inductive HO where
  | lst (xs:List V)
  | tup (xs:List V)
  | dK (kvs:List (Key×V)) | dT (kvs:List (TKey×V))
  | set (S:Int->Bool) (n:Nat)
  | ins (C dx:Addr) (fs:List (Str×V))
  | own (x:Addr)
  | xd (fs:List (Str×V))
  | met (f x:Addr)
  | rng (lo hi:Int)
  | frz (o:Obj) (u:HO)
  | tbl (ps:Array Value)
  | ext (φ:Heap->Prop)
abbrev Hp:=Addr->Option HO
def upd (H:Hp) (a:Addr) (o:HO):Hp:=fun b=>if b=a then some o else H b
theorem jJ3 {H:Hp} {a:Addr} {o:HO}:upd H a o a=some o:=by unfold upd;rw[if_pos rfl]
theorem jJu {H:Hp} {a b:Addr} {o:HO} (h:b≠a):upd H a o b=H b:=by unfold upd;rw[if_neg h]
theorem ne_of {H:Hp} {a b:Addr} {o u:HO} (h:H a=some o) (h':H b=some u) (d:o≠u):a≠b:=by
 intro e;subst e;rw[h] at h';exact d (Option.some.inj h')
theorem jQx {H:Hp} {a b:Addr} {o:HO} (h:H a=some o) (h':H b=none):a≠b:=by
 intro e;subst e;rw[h] at h';cases h'
def Rk1 (H:Hp) (k:K1) (v:V):Prop:=match k with
 | .inl k=>v=kV k
 | .inr ks=>∃p vs,v= .ref p/\H p=some (.tup vs)/\Paired (fun k v=>v=kV k) ks vs
def Rk2 (H:Hp) (k:K2) (v:V):Prop:=match k with
 | .inl k=>v=kV k
 | .inr ks=>∃p vs,v= .ref p/\H p=some (.tup vs)/\Paired (Rk1 H) ks vs
def TKeyAt (H:Hp) (ks:TKey) (a:Addr):Prop:=∃vs,H a=some (.tup vs)/\Paired (Rk2 H) ks vs
theorem jU9 {α β:Type} {F G:α->β->Prop} (f:∀a b,F a b->G a b):∀ {l:List α} {m:List β},Paired F l m->Paired G l m
 | _,_,.nil=> .nil
 | _,_,.cons r t=> .cons (f _ _ r) (jU9 f t)
theorem Rk1.mono {H H':Hp} (ht:∀b ys,H b=some (.tup ys)->H' b=some (.tup ys)) (k:K1) (v:V) (r:Rk1 H k v):Rk1 H' k v:=by
 cases k with
 | inl k=>exact r
 | inr ks=>obtain⟨p,vs,e,h,t⟩:=r;exact⟨p,vs,e,ht _ _ h,t⟩
theorem Rk2.mono {H H':Hp} (ht:∀b ys,H b=some (.tup ys)->H' b=some (.tup ys)) (k:K2) (v:V) (r:Rk2 H k v):Rk2 H' k v:=by
 cases k with
 | inl k=>exact r
 | inr ks=>obtain⟨p,vs,e,h,t⟩:=r;exact⟨p,vs,e,ht _ _ h,jU9 (Rk1.mono ht) t⟩
theorem TKeyAt.mono {H H':Hp} {ks:TKey} {a:Addr} (r:TKeyAt H ks a) (ht:∀b ys,H b=some (.tup ys)->H' b=some (.tup ys)):TKeyAt H' ks a:=by
 obtain⟨vs,h,t⟩:=r;exact⟨vs,ht _ _ h,jU9 (Rk2.mono ht) t⟩
section
variable (P:Program) (w:World)
def TupD (h:Heap) (a:Addr) (items:Array Value):Prop:=∃o,h.get? a=some o/\o.cls= .type "tuple"/\∃n,o.data= .seq items n/\o.dict=none
theorem TupD.is {h:Heap} {a:Addr} {items:Array Value} (x:TupD h a items):IsTup h a items:=let ⟨o,e,c,n,d,_⟩:=x;⟨o,e,c,n,d⟩
theorem TupD.new (h:Heap) (items:Array Value):TupD (h.push {cls:= .type "tuple",data:= .seq items}) h.objs.size items:=⟨_,Heap.get?_push_size _ rfl,rfl,_,rfl,rfl⟩
noncomputable def ObjOk (H:Hp) (h:Heap) (a:Addr):HO->Prop
 | .lst xs=>xs.length<=sizeLine/\∃(its:List Value) (n:Nat),Vals xs its/\h.get? a=some {cls:= .type "list",data:= .seq its.toArray n}
 | .tup xs=>xs.length<=sizeLine/\∃its:List Value,Vals xs its/\TupD h a its.toArray
 | .dK kvs=>kvs.length<=sizeLine/\(a == sysModules)=false/\∃vs,KV kvs vs/\h.DictOf (jJw P w) a vs
 | .dT kvs=>kvs.length<=sizeLine/\(a == sysModules)=false/\∃xs:List (TKey×Addr×Value),
   Paired (fun (p:TKey×V) (q:TKey×Addr×Value)=>p.1=q.1/\TKeyAt H p.1 q.2.1/\RelV p.2 q.2.2) kvs xs/\
   ∃o es ep,h.get? a=some o/\o.ExactDict/\o.data= .dict es ep/\es.toList=xs.map (entryOfKey (jJk P w))/\(xs.map (·.1)).Nodup
 | .set S n=>h.SetOf (intKind P w) a S n
 | .ins C dx fs=>H dx=some (.own a)/\fs.length<=1000/\dx≠a/\h.get? a=some (PySem.W.instObj C dx)/\
   ∃mA,h.Ns1 dx mA/\(∀f,RelO (fs.lookup f) (mA f))/\PySem.Within mA (fs.map (·.1))
 | .own _=>∃o,h.get? a=some o
 | .xd fs=>∃mA,h.Ns1 a mA/\∀f,RelO (fs.lookup f) (mA f)
 | .rng lo hi=>∃t u v,h.get? a=some {cls:= .type "range",data:= .fields #[.int lo t,.int hi u,.int 1 v]}
 | .frz o u=>h.get? a=some o/\ObjOk H h a u
 | .tbl ps=>h.get? a=some {cls:= .none,data:= .fields ps}
 | .met f x=>h.get? a=some (PySem.W.methodObj (.ref f) (.ref x))
 | .ext φ=>φ h/\(∃o,h.get? a=some o)/\∀h1 h2:Heap,φ h1->(∀o,h1.get? a=some o->h2.get? a=some o)->φ h2
def HOk (H:Hp) (h:Heap):Prop:=∀a o,H a=some o->ObjOk P w H h a o
end
section
variable {P:Program} {w:World} {H H':Hp} {h h':Heap} {a:Addr} {o:HO}
theorem ObjOk.lt (x:ObjOk P w H h a o):a<h.objs.size:=by
 cases o with
 | lst xs=>obtain⟨_,_,_,_,e⟩:=x;exact Heap.lt_size e
 | tup xs=>obtain⟨_,_,_,p⟩:=x;exact p.is.lt
 | dK kvs=>obtain⟨_,_,_,_,o,_,_,e,_⟩:=x;exact Heap.lt_size e
 | dT kvs=>obtain⟨_,_,_,_,o,_,_,e,_⟩:=x;exact Heap.lt_size e
 | set S n=>obtain⟨o,_,_,_,e,_⟩:=x;exact Heap.lt_size e
 | ins C dx fs=>obtain⟨_,_,_,e,_⟩:=x;exact Heap.lt_size e
 | own y=>obtain⟨_,e⟩:=x;exact Heap.lt_size e
 | xd fs=>obtain⟨_,⟨_,_,_,e,_⟩,_⟩:=x;exact Heap.lt_size e
 | rng lo hi=>obtain⟨_,_,_,e⟩:=x;exact Heap.lt_size e
 | frz ob u=>obtain⟨e,_⟩:=x;exact Heap.lt_size e
 | tbl ps=>exact Heap.lt_size (show h.get? a=some _ from x)
 | met f y=>exact Heap.lt_size (show h.get? a=some _ from x)
 | ext φ=>obtain⟨_,⟨_,e⟩,_⟩:=x;exact Heap.lt_size e
theorem Paired.mapP {α β:Type} {F G:α->β->Prop}:∀ {l₁:List α} {l₂:List β},Paired F l₁ l₂->(∀a b,F a b->G a b)->Paired G l₁ l₂
 | _,_,.nil,_=> .nil
 | _,_,.cons r t,f=> .cons (f _ _ r) (Paired.mapP t f)
theorem ObjOk.stay (x:ObjOk P w H h a o) (k:∀b u,(b=a\/H b=some (.own a))->h.get? b=some u->h'.get? b=some u)
  (ho:∀b,H b=some (.own a)->H' b=some (.own a)) (ht:∀b xs,H b=some (.tup xs)->H' b=some (.tup xs)):ObjOk P w H' h' a o:=by
 induction o with
 | lst xs=>obtain⟨z,its,n,r,e⟩:=x;exact⟨z,its,n,r,k _ _ (.inl rfl) e⟩
 | tup xs=>obtain⟨z,its,r,ob,e,c⟩:=x;exact⟨z,its,r,ob,k _ _ (.inl rfl) e,c⟩
 | dK kvs=>obtain⟨z,y,vs,r,ob,es,ep,e,c⟩:=x;exact⟨z,y,vs,r,ob,es,ep,k _ _ (.inl rfl) e,c⟩
 | dT kvs=>
  obtain⟨z,y,xs,r,ob,es,ep,e,c⟩:=x
  exact⟨z,y,xs,Paired.mapP r fun p q z=>⟨z.1,z.2.1.mono ht,z.2.2⟩,ob,es,ep,k _ _ (.inl rfl) e,c⟩
 | set S n=>obtain⟨ob,es,ep,t,e,c⟩:=x;exact⟨ob,es,ep,t,k _ _ (.inl rfl) e,c⟩
 | ins C dx fs=>
  obtain⟨d,z,ne,e,mA,⟨od,es,ep,e2,c⟩,r⟩:=x
  exact⟨ho _ d,z,ne,k _ _ (.inl rfl) e,mA,⟨od,es,ep,k _ _ (.inr d) e2,c⟩,r⟩
 | own y=>obtain⟨ob,e⟩:=x;exact⟨ob,k _ _ (.inl rfl) e⟩
 | xd fs=>obtain⟨mA,⟨od,es,ep,e,c⟩,r⟩:=x;exact⟨mA,⟨od,es,ep,k _ _ (.inl rfl) e,c⟩,r⟩
 | rng lo hi=>obtain⟨t,u,v,e⟩:=x;exact⟨t,u,v,k _ _ (.inl rfl) e⟩
 | frz ob u ih=>obtain⟨e,q⟩:=x;exact⟨k _ _ (.inl rfl) e,ih q⟩
 | tbl ps=>
  have e:h.get? a=some {cls:= .none,data:= .fields ps}:=x
  show h'.get? a=some {cls:= .none,data:= .fields ps}
  exact k a _ (.inl rfl) e
 | met f y=>
  have e:h.get? a=some (PySem.W.methodObj (.ref f) (.ref y)):=x
  show h'.get? a=some (PySem.W.methodObj (.ref f) (.ref y))
  exact k a _ (.inl rfl) e
 | ext φ=>obtain⟨p,⟨o,e⟩,st⟩:=x;exact⟨st _ _ p fun o q=>k _ _ (.inl rfl) q,⟨o,k _ _ (.inl rfl) e⟩,st⟩
theorem HOk.lt (x:HOk P w H h) (e:H a=some o):a<h.objs.size:=(x a o e).lt
theorem HOk.fresh (x:HOk P w H h) (e:h.objs.size<=a):H a=none:=by
 cases q:H a with
 | none=>rfl
 | some u=>exact absurd (Nat.lt_of_lt_of_le (x.lt q) e) (Nat.lt_irrefl _)
theorem HOk.kept (x:HOk P w H h) (k:∀b u,h.get? b=some u->h'.get? b=some u):HOk P w H h':=fun a o e=>
 (x a o e).stay (fun b u _ q=>k b u q) (fun _ q=>q) fun _ _ q=>q
theorem HOk.laid (x:HOk P w H h) (k:∀b u,h.get? b=some u->h'.get? b=some u) (hp:h.objs.size<=a) (new:ObjOk P w (upd H a o) h' a o):HOk P w (upd H a o) h':=fun b u e=>by
 have hn:=x.fresh hp
 by_cases hb:b=a
 ·subst hb;rw[jJ3] at e;cases e;exact new
 ·rw[jJu hb] at e
  exact (x b u e).stay (fun c v _ q=>k c v q) (fun c q=>by rw[jJu (jQx q hn)];exact q) fun c xs q=>by rw[jJu (jQx q hn)];exact q
end
def Rd (H:Hp) (a:Addr) (u:HO):Prop:=H a=some u\/∃o,H a=some (.frz o u)
theorem Rd.ok {P:Program} {w:World} {H:Hp} {h:Heap} {a:Addr} {u:HO} (r:Rd H a u) (x:HOk P w H h):ObjOk P w H h a u:=by
 rcases r with r | ⟨o,r⟩
 ·exact x a u r
 ·obtain⟨_,q⟩:=x a _ r
  exact q
def Mut:Option HO->Prop
 | some (.lst _)=>True
 | some (.dK _)=>True
 | some (.dT _)=>True
 | some (.set _ _)=>True
 | some (.ins _ _ _)=>True
 | some (.ext _)=>True
 | _=>False
section
variable {P:Program} {w:World} {H:Hp} {h h':Heap} {x e:Addr} {o':HO}
theorem HOk.write (ok:HOk P w H h) (mu:Mut (H x)) (he:e=x\/H e=some (.own x)) (k:∀b u,b≠e->h.get? b=some u->h'.get? b=some u) (heo:∃u,h'.get? e=some u)
  (new:ObjOk P w (upd H x o') h' x o'):HOk P w (upd H x o') h':=fun b u q=>by
 have nown:∀c y,H c=some (.own y)->c≠x:=fun c y r z=>by subst z;rw[r] at mu;exact mu
 have ntup:∀c xs,H c=some (.tup xs)->c≠x:=fun c xs r z=>by subst z;rw[r] at mu;exact mu
 by_cases hb:b=x
 ·subst hb;rw[jJ3] at q;cases q;exact new
 ·rw[jJu hb] at q
  by_cases hbe:b=e
  ·have q':H b=some (.own x):=by
    rcases he with z | z
    ·exact absurd (hbe.trans z) hb
    ·rw[hbe];exact z
   rw[q] at q';cases q'
   obtain⟨v,hv⟩:=heo
   exact⟨v,by rw[hbe];exact hv⟩
  ·refine (ok b u q).stay (fun c v hc r=>k c v ?_ r) (fun c r=>by rw[jJu (nown c b r)];exact r) fun c xs r=>by rw[jJu (ntup c xs r)];exact r
   rcases hc with rfl | hc
   ·exact hbe
   ·rintro rfl
    rcases he with z | z
    ·exact nown c b hc z
    ·rw[hc] at z;cases z;exact hb rfl
end
structure Un (fs ex:List Addr) (H H':Hp) (h h':Heap):Prop where
 keep:∀b o,h.get? b=some o->H b=none->b∉fs->b∉ex->h'.get? b=some o
 slot:∀b o,h.get? b=some o->H b=none->b∈fs->b∉ex->∃sl,h'.get? b=some {o with slots:=sl}
 free:∀b o,h.get? b=some o->H b=none->b∉ex->H' b=none
 there:∀b o,h.get? b=some o->b∉ex->∃o',h'.get? b=some o'
 tups:∀b xs,H b=some (.tup xs)->H' b=some (.tup xs)
 frzs:∀b o u,H b=some (.frz o u)->H' b=some (.frz o u)
 tbls:∀b ps,H b=some (.tbl ps)->∃more,H' b=some (.tbl (ps++more))
section
variable {fs fs' ex ex':List Addr} {H H1 H2:Hp} {h h1 h2 h':Heap} {a x e:Addr} {o:HO}
theorem Un.any (u:Un fs ex H H1 h h1) {b:Addr} {ob:Obj} (q:h.get? b=some ob) (n:H b=none) (hx:b∉ex):∃sl,h1.get? b=some {ob with slots:=sl}:=by
 by_cases hb:b∈fs
 ·exact u.slot b ob q n hb hx
 ·exact⟨ob.slots,u.keep b ob q n hb hx⟩
theorem Un.kept (k:∀b u,h.get? b=some u->h'.get? b=some u):Un fs ex H H h h':=
 ⟨fun b ob q _ _ _=>k b ob q,fun b ob q _ _ _=>⟨ob.slots,k b ob q⟩,fun _ _ _ n _=>n,fun b ob q _=>⟨ob,k b ob q⟩,fun _ _ q=>q,fun _ _ _ q=>q,fun _ ps q=>⟨#[],by rw[q];simp⟩⟩
theorem Un.refl:Un fs ex H H h h:=Un.kept fun _ _ q=>q
theorem Un.laid (k:∀b u,h.get? b=some u->h'.get? b=some u) (hp:h.objs.size<=a) (hn:H a=none):Un fs ex H (upd H a o) h h' where
 keep:=fun b u q _ _ _=>k b u q
 slot:=fun b u q _ _ _=>⟨u.slots,k b u q⟩
 free:=fun b u q n _=>by rw[jJu (Nat.ne_of_lt (Nat.lt_of_lt_of_le (Heap.lt_size q) hp))];exact n
 there:=fun b u q _=>⟨u,k b u q⟩
 tups:=fun b xs q=>by rw[jJu (jQx q hn)];exact q
 frzs:=fun b u xs q=>by rw[jJu (jQx q hn)];exact q
 tbls:=fun b ps q=>⟨#[],by rw[jJu (jQx q hn),q];simp⟩
theorem Un.write (mu:Mut (H x)) (he:e=x\/H e=some (.own x)) (k:∀b u,b≠e->h.get? b=some u->h'.get? b=some u) (heo:∃u,h'.get? e=some u):Un fs ex H (upd H x o) h h':=by
 have hx:∀b,H b=none->b≠x:=fun b n z=>by subst z;rw[n] at mu;exact mu
 have hb:∀b,H b=none->b≠e:=fun b n z=>by
  subst z
  rcases he with r | r
  ·exact hx b n r
  ·rw[n] at r;cases r
 have hm:∀b u,H b=some u->¬ Mut (some u)->b≠x:=fun b u q nm z=>by subst z;rw[q] at mu;exact nm mu
 refine⟨fun b u q n _ _=>k b u (hb b n) q,fun b u q n _ _=>⟨u.slots,k b u (hb b n) q⟩,fun b u q n _=>by rw[jJu (hx b n)];exact n,fun b u q _=> ?_,
  fun b xs q=>by rw[jJu (hm b _ q fun z=>z)];exact q,fun b u xs q=>by rw[jJu (hm b _ q fun z=>z)];exact q,fun b ps q=>⟨#[],by rw[jJu (hm b _ q fun z=>z),q];simp⟩⟩
 by_cases hbe:b=e
 ·subst hbe;exact heo
 ·exact⟨u,k b u hbe q⟩
end
def trk (h:Heap) (H:Hp):List Addr:=(List.range h.objs.size).filter fun a=>(H a).isSome
def hidT (h:Heap) (H:Hp):Heap:=PySem.W.hideAll h (trk h H)
theorem kYn (h:Heap) (H:Hp):(hidT h H).objs.size=h.objs.size:=PySem.W.hideAll_size _ _
theorem qJz {h:Heap} {H:Hp} {b:Addr} {o:Obj} (e:h.get? b=some o) (n:H b=none):(hidT h H).get? b=some o:=
 PySem.W.hideAll_get _ e fun hm=>by
  have q:(H b).isSome=true:=(List.mem_filter.mp hm).2
  rw[n] at q;simp at q
theorem qQv {h:Heap} {H:Hp} {b:Addr} {o:Obj} (e:(hidT h H).get? b=some o):h.get? b=some o/\H b=none:=by
 have e':h.get? b=some o:=PySem.W.of_hideAll (trk h H) e
 refine⟨e',?_⟩
 cases q:H b with
 | none=>rfl
 | some x=>
  have hm:b∈trk h H:=List.mem_filter.mpr ⟨List.mem_range.mpr (Heap.lt_size e'),by simp[q]⟩
  have z:(hidT h H).get? b=none:=PySem.W.hideAll_none (trk h H) hm
  rw[z] at e;cases e
def qU4 (g h:Heap) (L:Addr):List (Addr×Obj):=(List.range h.objs.size).filterMap fun a=>if a=L\/(g.get? a).isSome=true then none else (h.get? a).map fun o=>(a,o)
def rest (g h:Heap) (L d:Addr):List (Addr×Obj):=(qU4 g h L).filter fun p=>decide (p.1≠d)
structure Mod (K:PySem.W.Frag) (mg:Str->Option Value) (base:Heap):Prop where
 kin:K.In base
 glob:base.Ns mainGlobals mg
 blt:∃mb,base.Ns builtinsNs mb/\∀x:Str,x≠"__name__"->mb x=bootBuiltins x
 nolimit:base.NoLimit
structure Cx where
 prog:Program
 w:World
 K:PySem.W.Frag
 mg:Str->Option Value
 base:Heap
 A:Around
 N:List Str
 s₀:Shared
 H₀:Hp
 env:Env
 outer:List Env
 stack:List Env
 ex:List Addr
 fn:Str->Bool
 calm:Bool
 pn:List (Addr×Obj)
 xe:Value->Shared->Prop
def frs (l:List Env):List Addr:=l.filterMap (·.frame)
abbrev Cx.fs (X:Cx):List Addr:=frs X.outer
def Vis (sc:Scope) (x:Str):Prop:=sc.names.lookup x=some .local\/sc.names.lookup x=some .cell\/sc.names.lookup x=some .free
def Loc (sc:Scope) (x:Str):Prop:=sc.names.lookup x=some .local\/sc.names.lookup x=some .cell
noncomputable def Look (env:Env) (h:Heap) (m:Str->Option Value) (x:Str) (u:Value):Prop:=
 (env.kindOf x=some .local/\m x=some u)\/((env.kindOf x=some .cell\/env.kindOf x=some .free)/\∃c,env.cells.lookup x=some c/\h.IsCell c (some u))
structure Cx.Ok (X:Cx):Prop where
 mod:Mod X.K X.mg X.base
 kind:X.env.scope.kind= .function
 glob:X.env.globals=mainGlobals
 blt:X.env.builtins=builtinsNs
 above:X.s₀.heap.objs.size<=X.env.locals
 inj:∀x y c,X.env.cells.lookup x=some c->X.env.cells.lookup y=some c->x=y
 has:∀x,(X.env.kindOf x=some .cell\/X.env.kindOf x=some .free)->∃c,X.env.cells.lookup x=some c
 cab:∀x c,X.fn x=true->X.env.cells.lookup x=some c->X.s₀.heap.objs.size<=c
 hd:X.calm=true->X.A.handled=none
 gd:X.calm=true->X.A.guards=some []
 frames:X.A.frames=some X.stack
 stk:X.stack=X.outer\/(X.stack=X.env::X.outer/\X.env.frame=some X.env.locals)
 exf:∀b∈X.ex,b≠X.env.locals/\∀x c,X.env.cells.lookup x=some c->c≠b
 bs:∀b o,X.base.get? b=some o->X.s₀.heap.get? b=some o/\X.H₀ b=none
 bsz:X.base.objs.size<=X.s₀.heap.objs.size
 noex:∀b o,X.base.get? b=some o->b∉X.ex
 exfs:∀b∈X.ex,b∉X.fs
 funs:X.s₀.heap.FunFrames X.base X.outer
 frf:∀b∈X.fs,X.H₀ b=none
structure Inv (X:Cx) (pins:List (Addr×Obj)) (σ:List (Option V)) (H:Hp) (s:Shared):Prop where
 ok:X.Ok
 os:s.os=X.s₀.os
 bare:AllBare s.gens
 base:Un X.fs X.ex X.H₀ H X.s₀.heap s.heap
 loc:∃m,s.heap.Ns X.env.locals m/\∀(i:Nat) (x:Str) (v:V),X.N[i]? =some x->σ[i]? =some (some v)->Vis X.env.scope x->∃u,RelV v u/\Look X.env s.heap m x u
 cell:∀x c,X.env.cells.lookup x=some c->∃v,s.heap.IsCell c v
 free:H X.env.locals=none
 freeC:∀x c,X.env.cells.lookup x=some c->H c=none
 pin:∀p∈X.pn++pins,s.heap.get? p.1=some p.2/\H p.1=none/\p.1≠X.env.locals/\p.1∉X.fs/\∀v,p.2.data≠ .cell v
 hok:HOk X.prog X.w H s.heap
 len:σ.length=X.N.length
section
variable {X:Cx} {pins:List (Addr×Obj)} {σ:List (Option V)} {H H':Hp} {s:Shared} {h':Heap}
theorem Cx.Ok.nofr (ok:X.Ok) {b:Addr} {o:Obj} (e:X.base.get? b=some o):b∉X.fs:=fun hb=>by
 have:=(ok.funs.mem hb).1
 rw[e] at this;cases this
theorem Inv.bs (I:Inv X pins σ H s):∀b o,X.base.get? b=some o->s.heap.get? b=some o/\H b=none:=fun b o e=>
 ⟨I.base.keep b o (I.ok.bs b o e).1 (I.ok.bs b o e).2 (I.ok.nofr e) (I.ok.noex b o e),I.base.free b o (I.ok.bs b o e).1 (I.ok.bs b o e).2 (I.ok.noex b o e)⟩
theorem Inv.bk (I:Inv X pins σ H s):∀b o,X.base.get? b=some o->s.heap.get? b=some o:=fun b o e=>(I.bs b o e).1
theorem Inv.mod (I:Inv X pins σ H s):Mod X.K X.mg X.base:=I.ok.mod
theorem Inv.kIn (I:Inv X pins σ H s):X.K.In s.heap:=I.ok.mod.kin.keeps I.bk
theorem Inv.lt (I:Inv X pins σ H s):X.env.locals<s.heap.objs.size:=let ⟨_,hn,_⟩:=I.loc;hn.lt
theorem Inv.sz (I:Inv X pins σ H s):X.s₀.heap.objs.size<=s.heap.objs.size:=Nat.le_trans I.ok.above (Nat.le_of_lt I.lt)
theorem Inv.nofs (I:Inv X pins σ H s) {a:Addr} (h:s.heap.objs.size<=a):a∉X.fs:=fun hb=>by
 obtain⟨_,o,ho,_⟩:=I.ok.funs.mem hb
 exact absurd (Nat.lt_of_lt_of_le (Heap.lt_size ho) (Nat.le_trans I.sz h)) (Nat.lt_irrefl _)
theorem Inv.cne (I:Inv X pins σ H s):∀x c,X.env.cells.lookup x=some c->c≠X.env.locals:=fun x c e z=>by
 obtain⟨v,o,ho,hd⟩:=I.cell x c e
 obtain⟨m,⟨o',es,ep,ho',hd',_⟩,_⟩:=I.loc
 rw[z,ho'] at ho;cases ho;rw[hd'] at hd;cases hd
theorem Inv.funs (I:Inv X pins σ H s):s.heap.FunFrames X.base X.outer:=by
 have all:∀(l:List Env),(∀b∈frs l,b∈X.fs)->X.s₀.heap.FunFrames X.base l->s.heap.FunFrames X.base l:=by
  intro l
  induction l with
  | nil=>intro _ _;trivial
  | cons env r ih=>
   intro hs hl
   obtain⟨hk,⟨L,o,hf,hn,ho,hd⟩,hr⟩:=hl
   have hL:L∈X.fs:=hs L (by unfold frs;rw[List.filterMap_cons,hf];exact List.mem_cons_self)
   obtain⟨sl,e⟩:=I.base.slot L o ho (I.ok.frf L hL) hL fun z=>I.ok.exfs L z hL
   exact⟨hk,⟨L,_,hf,hn,e,hd⟩,ih (fun b hb=>hs b (by unfold frs;rw[List.filterMap_cons,hf];exact List.mem_cons_of_mem _ hb)) hr⟩
 exact all X.outer (fun _ hb=>hb) I.ok.funs
theorem Inv.stack (I:Inv X pins σ H s):s.heap.FunFrames X.base X.stack:=by
 rcases I.ok.stk with e | ⟨e,hf⟩
 ·rw[e];exact I.funs
 ·rw[e]
  obtain⟨m,hn,_⟩:=I.loc
  refine .cons (by rw[I.ok.kind];decide) hf hn ?_ I.funs
  exact Heap.get?_none_of_le (Nat.le_trans I.ok.bsz I.ok.above)
theorem Inv.stkSub (I:Inv X pins σ H s):∀b∈frs X.stack,b∈X.env.locals::X.fs:=fun b hb=>by
 rcases I.ok.stk with e | ⟨e,hf⟩
 ·rw[e] at hb;exact List.mem_cons_of_mem _ hb
 ·rw[e] at hb
  unfold frs at hb
  rw[List.filterMap_cons,hf] at hb
  exact hb
theorem Inv.stkFree (I:Inv X pins σ H s):∀b∈frs X.stack,H b=none:=fun b hb=>by
 rcases List.mem_cons.mp (I.stkSub b hb) with e | hb
 ·rw[e];exact I.free
 ·obtain⟨_,o,ho,_⟩:=I.ok.funs.mem hb
  exact I.base.free b o ho (I.ok.frf b hb) fun z=>I.ok.exfs b z hb
theorem Inv.step {g':Array GenState} {t':Nat} {d':Drawn} {ch:List Addr} (I:Inv X pins σ H s)
  (hch:∀b∈ch,(b∈X.ex\/X.s₀.heap.objs.size<=b)/\b≠X.env.locals/\(∀x c,X.env.cells.lookup x=some c->c≠b)/\∀p∈X.pn++pins,p.1≠b)
  (keep:∀b o,b≠X.env.locals->b∉X.fs->b∉ch->s.heap.get? b=some o->H b=none->h'.get? b=some o)
  (slot:∀b o,b≠X.env.locals->b∈X.fs->b∉ch->s.heap.get? b=some o->H b=none->∃sl,h'.get? b=some {o with slots:=sl}) (free:∀b o,b∉ch->s.heap.get? b=some o->H b=none->H' b=none)
  (there:∀b o,b∉ch->s.heap.get? b=some o->∃o',h'.get? b=some o')
  (tups:∀b xs,H b=some (.tup xs)->H' b=some (.tup xs)) (frzs:∀b o u,H b=some (.frz o u)->H' b=some (.frz o u)) (tbls:∀b ps,H b=some (.tbl ps)->∃more,H' b=some (.tbl (ps++more)))
  (ns:∀m,s.heap.Ns X.env.locals m->h'.Ns X.env.locals m) (hok:HOk X.prog X.w H' h') (hg:AllBare g'):
  Inv X pins σ H' {s with heap:=h',gens:=g',drawn:=d',toks:=t'}:=by
 have neL:∀b o,X.s₀.heap.get? b=some o->b≠X.env.locals:=fun b o e=>Nat.ne_of_lt (Nat.lt_of_lt_of_le (Heap.lt_size e) I.ok.above)
 have neC:∀b o,X.s₀.heap.get? b=some o->b∉X.ex->b∉ch:=fun b o e hx hb=>by
  rcases (hch b hb).1 with z | z
  ·exact hx z
  ·exact absurd (Nat.lt_of_lt_of_le (Heap.lt_size e) z) (Nat.lt_irrefl _)
 have cellK:∀x c,X.env.cells.lookup x=some c->∀v,s.heap.IsCell c v->h'.IsCell c v:=fun x c e v ⟨o,ho,hd⟩=>by
  have nch:c∉ch:=fun z=>(hch c z).2.2.1 x c e rfl
  by_cases hc:c∈X.fs
  ·obtain⟨sl,q⟩:=slot c o (I.cne x c e) hc nch ho (I.freeC x c e)
   exact⟨_,q,hd⟩
  ·exact⟨o,keep c o (I.cne x c e) hc nch ho (I.freeC x c e),hd⟩
 refine⟨I.ok,I.os,hg,⟨fun b o e n hb hx=> ?_,fun b o e n hb hx=> ?_,fun b o e n hx=> ?_,fun b o e hx=> ?_,fun b xs e=>tups b xs (I.base.tups b xs e),fun b o xs e=>frzs b o xs (I.base.frzs b o xs e),fun b ps e=> ?_⟩,?_,fun x c e=> ?_,?_,fun x c e=> ?_,fun p hp=> ?_,hok,I.len⟩
 ·exact keep b o (neL b o e) hb (neC b o e hx) (I.base.keep b o e n hb hx) (I.base.free b o e n hx)
 ·obtain⟨sl,e1⟩:=I.base.slot b o e n hb hx
  obtain⟨sl',e2⟩:=slot b _ (neL b o e) hb (neC b o e hx) e1 (I.base.free b o e n hx)
  exact⟨sl',e2⟩
 ·obtain⟨o',e1⟩:=I.base.there b o e hx
  exact free b o' (neC b o e hx) e1 (I.base.free b o e n hx)
 ·obtain⟨o',e1⟩:=I.base.there b o e hx
  exact there b o' (neC b o e hx) e1
 ·obtain⟨m1,e1⟩:=I.base.tbls b ps e
  obtain⟨m2,e2⟩:=tbls b _ e1
  exact⟨m1++m2,by rw[e2,Array.append_assoc]⟩
 ·obtain⟨m,hn,hl⟩:=I.loc
  refine⟨m,ns m hn,fun i x v e1 e2 e3=> ?_⟩
  obtain⟨u,r,l⟩:=hl i x v e1 e2 e3
  refine⟨u,r,?_⟩
  rcases l with l | ⟨k,c,e,z⟩
  ·exact .inl l
  ·exact .inr ⟨k,c,e,cellK x c e _ z⟩
 ·obtain⟨v,z⟩:=I.cell x c e
  exact⟨v,cellK x c e v z⟩
 ·obtain⟨m,⟨o,_,_,ho,_⟩,_⟩:=I.loc
  exact free _ o (fun z=>(hch _ z).2.1 rfl) ho I.free
 ·obtain⟨v,o,ho,hd⟩:=I.cell x c e
  exact free c o (fun z=>(hch c z).2.2.1 x c e rfl) ho (I.freeC x c e)
 ·obtain⟨e,n,ne,nf,d⟩:=I.pin p hp
  have nch:p.1∉ch:=fun z=>(hch p.1 z).2.2.2 p hp rfl
  exact⟨keep p.1 p.2 ne nf nch e n,free p.1 p.2 nch e n,ne,nf,d⟩
theorem Inv.un {t':Nat} (I:Inv X pins σ H s) (u:Un X.fs [] H H' s.heap h') (hok:HOk X.prog X.w H' h'):Inv X pins σ H' {s with heap:=h',toks:=t'}:=by
 obtain⟨m,⟨o,es,ep,ho,r⟩,_⟩:=id I.loc
 obtain⟨sl,hL⟩:=u.any ho I.free (by simp)
 exact I.step (g':=s.gens) (d':=s.drawn) (ch:=[]) (fun _ z=>nomatch z) (fun b o _ hb _ e n=>u.keep b o e n hb (by simp)) (fun b o _ hb _ e n=>u.slot b o e n hb (by simp)) (fun b o _ e n=>u.free b o e n (by simp)) (fun b o _ e=>u.there b o e (by simp)) u.tups u.frzs u.tbls (fun m' hm=>by
  obtain⟨o',es',ep',ho',r'⟩:=hm
  rw[ho] at ho';cases ho'
  exact⟨_,es',ep',hL,r'⟩) hok I.bare
theorem Inv.call {g':Array GenState} {t':Nat} {d':Drawn} {ch:List Addr} (I:Inv X pins σ H s) (u:Un (frs X.stack) ch H H' s.heap h') (hok:HOk X.prog X.w H' h') (hg:AllBare g')
  (hch:∀b∈ch,(b∈X.ex\/X.s₀.heap.objs.size<=b)/\b≠X.env.locals/\(∀x c,X.env.cells.lookup x=some c->c≠b)/\∀p∈X.pn++pins,p.1≠b):
  Inv X pins σ H' {s with heap:=h',gens:=g',drawn:=d',toks:=t'}:=by
 obtain⟨m,⟨o,es,ep,ho,r⟩,_⟩:=id I.loc
 obtain⟨sl,hL⟩:=u.any ho I.free fun z=>(hch _ z).2.1 rfl
 exact I.step (ch:=ch) hch (fun b o hL hb hc e n=>u.keep b o e n (fun z=>(List.mem_cons.mp (I.stkSub b z)).elim hL hb) hc) (fun b o _ _ hc e n=>u.any e n hc) (fun b o hc e n=>u.free b o e n hc) (fun b o hc e=>u.there b o e hc) u.tups u.frzs u.tbls (fun m' hm=>by
  obtain⟨o',es',ep',ho',r'⟩:=hm
  rw[ho] at ho';cases ho'
  exact⟨_,es',ep',hL,r'⟩) hok hg
theorem Inv.turned {t':Nat} {it:Addr} (I:Inv X pins σ H s) (k:∀b o,b≠it->s.heap.get? b=some o->h'.get? b=some o) (hn:H it=none) (hL:it≠X.env.locals)
  (h1:it∈X.ex\/X.s₀.heap.objs.size<=it) (h2:∀x c,X.env.cells.lookup x=some c->c≠it) (h3:∀p∈X.pn++pins,p.1≠it):Inv X pins σ H {s with heap:=h',toks:=t'}:=by
 have nit:∀b u,H b=some u->b≠it:=fun b u e z=>by rw[z,hn] at e;cases e
 refine I.step (g':=s.gens) (d':=s.drawn) (ch:=[it]) (fun b hb=> ?_) (fun b o _ _ hc e _=>k b o (fun z=>hc (by simp[z])) e) (fun b o _ _ hc e _=>⟨o.slots,k b o (fun z=>hc (by simp[z])) e⟩) (fun _ _ _ _ n=>n)
  (fun b o hc e=>⟨o,k b o (fun z=>hc (by simp[z])) e⟩) (fun _ _ e=>e) (fun _ _ _ e=>e) (fun b ps e=>⟨#[],by rw[e];simp⟩) (fun m hm=> ?_) (fun b u e=> ?_) I.bare
 ·have e:b=it:=by simpa using hb
  subst e
  exact⟨h1,hL,h2,h3⟩
 ·obtain⟨o,es,ep,ho,r⟩:=hm
  exact⟨o,es,ep,k _ o (Ne.symm hL) ho,r⟩
 ·refine (I.hok b u e).stay (fun c v hc q=>k c v ?_ q) (fun _ q=>q) fun _ _ q=>q
  rcases hc with z | z
  ·rw[z];exact nit b u e
  ·exact nit c _ z
theorem Inv.tok (I:Inv X pins σ H s) (t:Nat):Inv X pins σ H {s with toks:=t}:=I.un (h':=s.heap) (t':=t) Un.refl I.hok
theorem Inv.kept {t':Nat} (I:Inv X pins σ H s) (k:∀b u,s.heap.get? b=some u->h'.get? b=some u):Inv X pins σ H {s with heap:=h',toks:=t'}:=I.un (Un.kept k) (I.hok.kept k)
theorem Inv.laid {a:Addr} {o:HO} {t':Nat} (I:Inv X pins σ H s) (k:∀b u,s.heap.get? b=some u->h'.get? b=some u) (hp:s.heap.objs.size<=a) (new:ObjOk X.prog X.w (upd H a o) h' a o):
  Inv X pins σ (upd H a o) {s with heap:=h',toks:=t'}:=I.un (Un.laid k hp (I.hok.fresh hp)) (I.hok.laid k hp new)
theorem Inv.write {x e:Addr} {o:HO} {t':Nat} (I:Inv X pins σ H s) (mu:Mut (H x)) (he:e=x\/H e=some (.own x)) (k:∀b u,b≠e->s.heap.get? b=some u->h'.get? b=some u) (heo:∃u,h'.get? e=some u)
  (new:ObjOk X.prog X.w (upd H x o) h' x o):Inv X pins σ (upd H x o) {s with heap:=h',toks:=t'}:=I.un (Un.write mu he k heo) (I.hok.write mu he k heo new)
theorem Inv.weak {σ':List (Option V)} (I:Inv X pins σ H s) (hl:σ'.length=σ.length) (w:∀(i:Nat) v,σ'[i]? =some (some v)->σ[i]? =some (some v)):Inv X pins σ' H s:=
 ⟨I.ok,I.os,I.bare,I.base,let ⟨m,hn,hl'⟩:=I.loc;⟨m,hn,fun i x v e1 e2 e3=>hl' i x v e1 (w i v e2) e3⟩,I.cell,I.free,I.freeC,I.pin,I.hok,hl.trans I.len⟩
theorem Inv.pins_of {pins':List (Addr×Obj)} (I:Inv X pins σ H s) (h:∀p∈pins',s.heap.get? p.1=some p.2/\H p.1=none/\p.1≠X.env.locals/\p.1∉X.fs/\∀v,p.2.data≠ .cell v):Inv X pins' σ H s:=
 ⟨I.ok,I.os,I.bare,I.base,I.loc,I.cell,I.free,I.freeC,fun p hp=>(List.mem_append.mp hp).elim (fun z=>I.pin p (List.mem_append_left _ z)) (h p),I.hok,I.len⟩
theorem kUa {N:List Str} (hN:N.Nodup) {i j:Nat} {x:Str} (a:N[i]? =some x) (b:N[j]? =some x):i=j:=by
 obtain⟨h1,e1⟩:=List.getElem?_eq_some_iff.mp a
 obtain⟨h2,e2⟩:=List.getElem?_eq_some_iff.mp b
 exact (List.getElem_inj hN).mp (e1.trans e2.symm)
theorem kV8 {M:Model} {A:Around} {E:Value->Shared->Prop} {i:Nat} {x:Str} {v:V} {u:Value} {Q:Unit->Shared->Prop} (I:Inv X pins σ H s) (hN:X.N.Nodup) (hi:X.N[i]? =some x) (hx:Loc X.env.scope x) (r:RelV v u)
  (h:∀s',Inv X pins (σ.set i (some v)) H s'->(∃a,Heap.SameBut a s.heap s'.heap/\(a=X.env.locals\/X.env.cells.lookup x=some a))->Q () s') (hf:X.fn x=true\/X.env.scope.names.lookup x=some .local:=by first | exact .inl rfl | exact .inr rfl | assumption):wpAny M A (storeName X.env x u) Q E s:=by
 obtain⟨m,hn,hl⟩:=id I.loc
 have hcls:(X.env.scope.kind == .class||(X.env.scope.kind == .module&&X.env.locals != X.env.globals))=false:=by rw[I.ok.kind];rfl
 have hiσ:i<σ.length:=by rw[I.len];exact (List.getElem?_eq_some_iff.mp hi).1
 have cne:=I.cne
 have tracked:∀ {a:Addr} {h':Heap},(∃o,s.heap.get? a=some o/\H a=none)->Heap.SameBut a s.heap h'->HOk X.prog X.w H h':=fun {a h'} ha hs b ob e=>by
  obtain⟨_,_,hfree⟩:=ha
  refine (I.hok b ob e).stay (fun c w' hc q=>(hs.2 c ?_).trans q) (fun _ q=>q) fun _ _ q=>q
  rintro rfl
  rcases hc with rfl | hc
  ·rw[hfree] at e;cases e
  ·rw[hfree] at hc;cases hc
 rcases hx with hk | hk
 ·refine wpAny_storeName_local hk hn (fun h' hn' hs=> ?_) hcls
  obtain⟨oL,_,_,hoL,_⟩:=id hn
  refine h _ ⟨I.ok,I.os,I.bare,⟨fun b o e n hb hx=> ?_,fun b o e n hb hx=> ?_,I.base.free,fun b o e hx=> ?_,I.base.tups,I.base.frzs,I.base.tbls⟩,⟨_,hn',fun j y v' e1 e2 e3=> ?_⟩,fun y c e=> ?_,I.free,I.freeC,fun p hp=> ?_,tracked ⟨oL,hoL,I.free⟩ hs,by simpa using I.len⟩ ⟨_,hs,.inl rfl⟩
  ·exact (hs.2 b (Nat.ne_of_lt (Nat.lt_of_lt_of_le (Heap.lt_size e) I.ok.above))).trans (I.base.keep b o e n hb hx)
  ·obtain⟨sl,e1⟩:=I.base.slot b o e n hb hx
   exact⟨sl,(hs.2 b (Nat.ne_of_lt (Nat.lt_of_lt_of_le (Heap.lt_size e) I.ok.above))).trans e1⟩
  ·obtain⟨o',e1⟩:=I.base.there b o e hx
   exact⟨o',(hs.2 b (Nat.ne_of_lt (Nat.lt_of_lt_of_le (Heap.lt_size e) I.ok.above))).trans e1⟩
  ·by_cases hj:j=i
   ·subst hj
    rw[hi] at e1;cases e1
    rw[List.getElem?_set_self hiσ] at e2
    cases e2
    exact⟨u,r,.inl ⟨hk,by simp⟩⟩
   ·rw[List.getElem?_set_ne (Ne.symm hj)] at e2
    obtain⟨u',r',q⟩:=hl j y v' e1 e2 e3
    refine⟨u',r',?_⟩
    rcases q with ⟨k,e⟩ | ⟨k,c,e,z⟩
    ·refine .inl ⟨k,?_⟩
     have:y≠x:=fun e=>hj (kUa hN e1 (e▸hi))
     simp[this,e]
    ·exact .inr ⟨k,c,e,z.sameBut hs (cne y c e)⟩
  ·obtain⟨w',z⟩:=I.cell y c e
   exact⟨w',z.sameBut hs (cne y c e)⟩
  ·obtain⟨e,n,ne,nf,d⟩:=I.pin p hp
   exact⟨(hs.2 p.1 ne).trans e,n,ne,nf,d⟩
 ·have hfn:X.fn x=true:=by
   rcases hf with z | z
   ·exact z
   ·rw[z] at hk;cases hk
  obtain⟨c,hc⟩:=I.ok.has x (.inl hk)
  obtain⟨w',z⟩:=I.cell x c hc
  refine wpAny_storeName_cell I.ok.kind hk hc z (fun h' hc' hs=> ?_)
  obtain⟨oc,hoc,hocd⟩:=id z
  refine h {s with heap:=h'} ⟨I.ok,I.os,I.bare,⟨fun b o e n hb hx=> ?_,fun b o e n hb hx=> ?_,I.base.free,fun b o e hx=> ?_,I.base.tups,I.base.frzs,I.base.tbls⟩,⟨m,hn.sameBut hs (Ne.symm (cne x c hc)),fun j y v' e1 e2 e3=> ?_⟩,fun y c' e=> ?_,I.free,I.freeC,fun p hp=> ?_,tracked ⟨oc,hoc,I.freeC x c hc⟩ hs,by simpa using I.len⟩ ⟨c,hs,.inr hc⟩
  ·exact (hs.2 b (Nat.ne_of_lt (Nat.lt_of_lt_of_le (Heap.lt_size e) (I.ok.cab x c hfn hc)))).trans (I.base.keep b o e n hb hx)
  ·obtain⟨sl,e1⟩:=I.base.slot b o e n hb hx
   exact⟨sl,(hs.2 b (Nat.ne_of_lt (Nat.lt_of_lt_of_le (Heap.lt_size e) (I.ok.cab x c hfn hc)))).trans e1⟩
  ·obtain⟨o',e1⟩:=I.base.there b o e hx
   exact⟨o',(hs.2 b (Nat.ne_of_lt (Nat.lt_of_lt_of_le (Heap.lt_size e) (I.ok.cab x c hfn hc)))).trans e1⟩
  ·by_cases hj:j=i
   ·subst hj
    rw[hi] at e1;cases e1
    rw[List.getElem?_set_self hiσ] at e2
    cases e2
    exact⟨u,r,.inr ⟨.inl hk,c,hc,hc'⟩⟩
   ·rw[List.getElem?_set_ne (Ne.symm hj)] at e2
    obtain⟨u',r',q⟩:=hl j y v' e1 e2 e3
    refine⟨u',r',?_⟩
    rcases q with q | ⟨k,c',e,z'⟩
    ·exact .inl q
    ·refine .inr ⟨k,c',e,z'.sameBut hs ?_⟩
     rintro rfl
     exact hj (kUa hN e1 (I.ok.inj _ _ _ e hc▸hi))
  ·by_cases hcc:c'=c
   ·subst hcc;exact⟨_,hc'⟩
   ·obtain⟨w2,z2⟩:=I.cell y c' e
    exact⟨w2,z2.sameBut hs hcc⟩
  ·obtain⟨e,n,ne,nf,d⟩:=I.pin p hp
   refine⟨(hs.2 p.1 ?_).trans e,n,ne,nf,d⟩
   intro q
   rw[q,hoc] at e
   have q':oc=p.2:=Option.some.inj e
   exact d w' (by rw[<-q'];exact hocd)
theorem jZ0 {M:Model} {A:Around} {E:Value->Shared->Prop} {i:Nat} {x:Str} {v:V} {u:Value} {Q:Unit->Shared->Prop} (I:Inv X pins σ H s) (hN:X.N.Nodup) (hi:X.N[i]? =some x) (hx:Loc X.env.scope x) (r:RelV v u)
  (h:∀s',Inv X pins (σ.set i (some v)) H s'->Q () s') (hf:X.fn x=true\/X.env.scope.names.lookup x=some .local:=by first | exact .inl rfl | exact .inr rfl | assumption):wpAny M A (storeName X.env x u) Q E s:=
 kV8 I hN hi hx r (fun s' I' _=>h s' I') hf
theorem Inv.call' {s':Shared} {ch:List Addr} (I:Inv X pins σ H s) (ho:s'.os=s.os) (u:Un (frs X.stack) ch H H' s.heap s'.heap) (hok:HOk X.prog X.w H' s'.heap) (hg:AllBare s'.gens)
  (hch:∀b∈ch,(b∈X.ex\/X.s₀.heap.objs.size<=b)/\b≠X.env.locals/\(∀x c,X.env.cells.lookup x=some c->c≠b)/\∀p∈X.pn++pins,p.1≠b):Inv X pins σ H' s':=by
 obtain⟨h',g',d',t',o'⟩:=s'
 have e:o'=s.os:=ho
 subst e
 exact I.call (g':=g') (t':=t') (d':=d') u hok hg hch
end
abbrev XK:=Value->Option Addr->Hp->Prop
abbrev St:=List (Option V)
abbrev VK:=V->Hp->Prop
abbrev TE:=St->Hp->VK->Prop
abbrev TT:=St->Hp->(Bool->Hp->Prop)->Prop
abbrev TA:=St->Hp->(List V->Hp->Prop)->Prop
structure Ends where
 nx:St->Hp->Prop
 rt:VK
 bk:St->Hp->Prop:=fun _ _=>False
 ct:St->Hp->Prop:=fun _ _=>False
abbrev TS:=Ends->St->Hp->Prop
def EP (X:Cx) (pins:List (Addr×Obj)) (σ:St) (Q:VK) (u:Value) (s':Shared):Prop:=∃v H',Inv X pins σ H' s'/\RelV v u/\Q v H'
def TP (X:Cx) (pins:List (Addr×Obj)) (σ:St) (Q:Bool->Hp->Prop) (b:Bool) (s':Shared):Prop:=∃H',Inv X pins σ H' s'/\Q b H'
noncomputable def SP (X:Cx) (pins:List (Addr×Obj)) (D:Ends) (f:Flow) (s':Shared):Prop:=
 match f with
 | .next=>∃ σ' H',Inv X pins σ' H' s'/\D.nx σ' H'
 | .brk=>∃ σ' H',Inv X pins σ' H' s'/\D.bk σ' H'
 | .cont=>∃ σ' H',Inv X pins σ' H' s'/\D.ct σ' H'
 | .ret u=>∃v σ' H',Inv X pins σ' H' s'/\RelV v u/\D.rt v H'
noncomputable def PE (X:Cx) (e:Expr) (t:TE):Prop:=
 ∀(pins:List (Addr×Obj)) (s:Shared) (σ:St) (H:Hp) (Q:VK),Inv X pins σ H s->t σ H Q->wpAny (model X.prog X.w) X.A (eval e X.env) (EP X pins σ Q) X.xe s
noncomputable def PSs (X:Cx) (st:List Stmt) (t:TS):Prop:=
 ∀(pins:List (Addr×Obj)) (s:Shared) (σ:St) (H:Hp) (D:Ends),Inv X pins σ H s->t D σ H->wpAny (model X.prog X.w) X.A (execs st X.env) (SP X pins D) X.xe s
theorem thn {α:Type} {t:Sem α} {Q Q':α->Shared->Prop} {M:Model} {A:Around} {E:Value->Shared->Prop} {s:Shared} (h:wpAny M A t Q E s) (hQ:∀a s,Q a s->Q' a s):wpAny M A t Q' E s:=wpAny_mono h hQ fun _ _ x=>x
section
variable {X:Cx}
def tVar (i:Nat):TE:=fun σ H Q=>∃v,σ[i]? =some (some v)/\Q v H
def tC (v:V):TE:=fun _ H Q=>Q v H
theorem pe_var {i:Nat} {x:Str} {pos:Pos} (hN:X.N[i]? =some x) (hv:Vis X.env.scope x) (hd:(x == ("__debug__":Str))=false:=by decide) (hcd:(x == ("__classdict__":Str))=false:=by decide):PE X (.Name x pos) (tVar i):=by
 intro pins s σ H Q I h
 obtain⟨v,e,h⟩:=h
 obtain⟨m,hn,hl⟩:=I.loc
 obtain⟨u,r,l⟩:=hl i x v hN e hv
 have fin:EP X pins σ Q u s:=⟨v,H,I,r,h⟩
 rcases l with ⟨hk,hm⟩ | ⟨hk,c,hc,hcell⟩
 ·exact wpAny_Name (wpAny_loadName_local I.ok.kind hk hn hm fin) hd
 ·rcases hk with hk | hk
  ·exact wpAny_Name (wpAny_loadName_cell I.ok.kind hk hc hcell fin) hd
  ·exact wpAny_Name (wpAny_loadName_free I.ok.kind hk hc hcell fin hcd) hd
theorem pe_int {i j pos}:PE X (.Constant (.int i) j pos) (tC (.int i)):=fun _ _ _ H _ I h=>wpAny_Constant_int ⟨.int i,H,I.tok _,⟨_,rfl⟩,h⟩
theorem pe_bl {b j pos}:PE X (.Constant (.bool b) j pos) (tC (.bl b)):=fun _ _ _ H _ I h=>Constant_bool ⟨.bl b,H,I,rfl,h⟩
theorem pe_non {j pos}:PE X (.Constant .none j pos) (tC .non):=fun _ _ _ H _ I h=>Constant_none ⟨.non,H,I,rfl,h⟩
def Gl (X:Cx) (x:Str):Prop:=X.env.kindOf x=some .globalImplicit
theorem qQ1 {E:Value->Shared->Prop} {pins:List (Addr×Obj)} {s:Shared} {σ:St} {H:Hp} {x:Str} {u:Value} {pos:Pos} {Q:Value->Shared->Prop} (I:Inv X pins σ H s) (hg:Gl X x) (hm:X.mg x=some u) (h:Q u s)
  (hd:(x == ("__debug__":Str))=false:=by decide):wpAny (model X.prog X.w) X.A (eval (.Name x pos) X.env) Q E s:=
 Calls.Name_function_global I.ok.kind hg (Calls.loadGlobal_global (by rw[I.ok.glob];exact I.mod.glob.keeps I.bk) hm h) hd
theorem jXh {E:Value->Shared->Prop} {pins:List (Addr×Obj)} {s:Shared} {σ:St} {H:Hp} {x:Str} {u:Value} {pos:Pos} {Q:Value->Shared->Prop} (I:Inv X pins σ H s) (hg:Gl X x) (hm:X.mg x=none) (hv:bootBuiltins x=some u) (h:Q u s)
  (hn:x≠"__name__":=by decide) (hd:(x == ("__debug__":Str))=false:=by decide):wpAny (model X.prog X.w) X.A (eval (.Name x pos) X.env) Q E s:=by
 obtain⟨mb,h1,h2⟩:=I.mod.blt
 exact Calls.Name_function_global I.ok.kind hg (Calls.loadGlobal_builtin (by rw[I.ok.glob];exact I.mod.glob.keeps I.bk) hm (by rw[I.ok.blt];exact h1.keeps I.bk) ((h2 x hn).trans hv) h) hd
theorem qQp {x:Str} {v:V} {u:Value} {pos:Pos} (hg:Gl X x) (hm:X.mg x=none) (hv:bootBuiltins x=some u) (r:RelV v u) (hn:x≠"__name__":=by decide) (hd:(x == ("__debug__":Str))=false:=by decide):PE X (.Name x pos) (tC v):=
 fun _ _ _ H _ I h=>jXh I hg hm hv ⟨v,H,I,r,h⟩ hn hd
variable {a b:Expr} {ta tb:TE} {pos:Pos}
def tB (t:TE):TT:=fun σ H Q=>t σ H fun x H1=>∃c,x= .bl c/\Q c H1
variable {tA tB':TT} {rest:List Expr}
def tAnd (t u:TT):TT:=fun σ H Q=>t σ H fun c H1=>if c=true then u σ H1 Q else Q false H1
def tOrV (ta tb:TE):TE:=fun σ H Q=>ta σ H fun x H1=>∃c,x= .bl c/\if c=true then Q (.bl true) H1 else tb σ H1 Q
end
noncomputable def SqL (K:PySem.W.Frag) (H:Hp) (a:Addr) (xs:List V):Prop:=
 Rd H a (.lst xs)\/
  ∃(o:Obj) (its:Array Value) (n:Nat),K.lookup a=some o/\o.cls= .type "list"/\o.dict=none/\o.data= .seq its n/\its.size<=sizeLine/\Vals xs its.toList
noncomputable def SqT (K:PySem.W.Frag) (H:Hp) (a:Addr) (xs:List V):Prop:=
 Rd H a (.tup xs)\/
  ∃(o:Obj) (its:Array Value) (n:Nat),K.lookup a=some o/\o.cls= .type "tuple"/\o.data= .seq its n/\its.size<=sizeLine/\Vals xs its.toList
noncomputable def absV:Value->Option V
 | .none=>some .non
 | .bool b=>some (.bl b)
 | .int i _=>some (.int i)
 | .str x _=>some (.str x)
 | .bytes b _=>some (.byt b)
 | .float b _=>some (.flt b)
 | .ref a=>some (.ref a)
 | .type n=>some (.ty n)
 | _=>none
theorem RelV.abs {x:V} {u:Value} (r:RelV x u):absV u=some x:=by
 cases x with
 | non=>cases r;rfl
 | bl _=>cases r;rfl
 | int _=>obtain⟨t,rfl⟩:=r;rfl
 | str _=>obtain⟨t,rfl⟩:=r;rfl
 | byt _=>obtain⟨t,rfl⟩:=r;rfl
 | flt _=>obtain⟨t,rfl⟩:=r;rfl
 | ref _=>cases r;rfl
 | ty _=>cases r;rfl
theorem RelV.inj {x y:V} {u:Value} (r:RelV x u) (q:RelV y u):x=y:=Option.some.inj (r.abs.symm.trans q.abs)
theorem Vals.inj {xs ys:List V} {us:List Value} (h:Vals xs us) (g:Vals ys us):xs=ys:=by
 induction h generalizing ys with
 | nil=>(cases g;rfl)
 | cons r _ ih=>(cases g with | cons r' t'=>rw[r.inj r',ih t'])
section
variable {X:Cx} {pins:List (Addr×Obj)} {σ:St} {H:Hp} {s:Shared} {a:Addr} {xs ys:List V}
theorem SqL.of {K:PySem.W.Frag} (h:H a=some (.lst xs)):SqL K H a xs:= .inl (.inl h)
theorem SqT.of {K:PySem.W.Frag} (h:H a=some (.tup xs)):SqT K H a xs:= .inl (.inl h)
theorem Inv.list (I:Inv X pins σ H s) (h:SqL X.K H a xs):∃its:List Value,Vals xs its/\PlainL s.heap a its.toArray/\xs.length<=sizeLine:=by
 rcases h with h | ⟨o,its,n,hk,hc,hd,hs,hz,r⟩
 ·obtain⟨z,its,n,r,e⟩:=h.ok I.hok
  exact⟨its,r,⟨_,n,e,rfl,rfl,rfl⟩,z⟩
 ·refine⟨its.toList,r,⟨o,n,I.kIn a o hk,hc,hd,by simpa using hs⟩,?_⟩
  have e:=r.length
  simp only[Array.length_toList] at e
  omega
theorem Inv.tuple (I:Inv X pins σ H s) (h:SqT X.K H a xs):∃its:List Value,Vals xs its/\IsTup s.heap a its.toArray/\xs.length<=sizeLine:=by
 rcases h with h | ⟨o,its,n,hk,hc,hs,hz,r⟩
 ·obtain⟨z,its,r,p⟩:=h.ok I.hok
  exact⟨its,r,p.is,z⟩
 ·refine⟨its.toList,r,⟨o,I.kIn a o hk,hc,n,by simpa using hs⟩,?_⟩
  have e:=r.length
  simp only[Array.length_toList] at e
  omega
theorem Inv.list_inj (I:Inv X pins σ H s) (h:SqL X.K H a xs) (h':SqL X.K H a ys):xs=ys:=by
 obtain⟨its,r,⟨o,n,e,_,_,d⟩,_⟩:=I.list h
 obtain⟨its',r',⟨o',n',e',_,_,d'⟩,_⟩:=I.list h'
 rw[e] at e';cases e'
 rw[d] at d'
 injection d' with d1 _
 have:its=its':=by simpa using congrArg Array.toList d1
 subst this
 exact r.inj r'
theorem Inv.tuple_inj (I:Inv X pins σ H s) (h:SqT X.K H a xs) (h':SqT X.K H a ys):xs=ys:=by
 obtain⟨its,r,⟨o,e,_,n,d⟩,_⟩:=I.tuple h
 obtain⟨its',r',⟨o',e',_,n',d'⟩,_⟩:=I.tuple h'
 rw[e] at e';cases e'
 rw[d] at d'
 injection d' with d1 _
 have:its=its':=by simpa using congrArg Array.toList d1
 subst this
 exact r.inj r'
end
abbrev Cx.wish (X:Cx) (E:Value->Shared->Prop):Cx:={X with xe:=E}
abbrev Cx.nox (X:Cx):Cx:=X.wish fun _ _=>False
theorem Cx.Ok.wish {X:Cx} (ok:X.Ok) (E:Value->Shared->Prop):(X.wish E).Ok:=
 ⟨ok.mod,ok.kind,ok.glob,ok.blt,ok.above,ok.inj,ok.has,ok.cab,ok.hd,ok.gd,ok.frames,ok.stk,ok.exf,ok.bs,ok.bsz,ok.noex,ok.exfs,ok.funs,ok.frf⟩
theorem Cx.Ok.unwish {X:Cx} {E:Value->Shared->Prop} (ok:(X.wish E).Ok):X.Ok:=
 ⟨ok.mod,ok.kind,ok.glob,ok.blt,ok.above,ok.inj,ok.has,ok.cab,ok.hd,ok.gd,ok.frames,ok.stk,ok.exf,ok.bs,ok.bsz,ok.noex,ok.exfs,ok.funs,ok.frf⟩
section
variable {X:Cx} {pins:List (Addr×Obj)} {σ:St} {H:Hp} {s:Shared} {E:Value->Shared->Prop}
theorem Inv.wish (I:Inv X pins σ H s) (E:Value->Shared->Prop):Inv (X.wish E) pins σ H s:=⟨I.ok.wish E,I.os,I.bare,I.base,I.loc,I.cell,I.free,I.freeC,I.pin,I.hok,I.len⟩
theorem Inv.unwish (I:Inv (X.wish E) pins σ H s):Inv X pins σ H s:=⟨I.ok.unwish,I.os,I.bare,I.base,I.loc,I.cell,I.free,I.freeC,I.pin,I.hok,I.len⟩
theorem SP.unwish {D:Ends} {f:Flow} {s':Shared} (h:SP (X.wish E) pins D f s'):SP X pins D f s':=by
 cases f with
 | next=>obtain⟨σ',H',I,q⟩:=h;exact⟨σ',H',I.unwish,q⟩
 | brk=>obtain⟨σ',H',I,q⟩:=h;exact⟨σ',H',I.unwish,q⟩
 | cont=>obtain⟨σ',H',I,q⟩:=h;exact⟨σ',H',I.unwish,q⟩
 | ret u=>obtain⟨v,σ',H',I,r,q⟩:=h;exact⟨v,σ',H',I.unwish,r,q⟩
theorem PSs.nox {st:List Stmt} {t:TS} (h:PSs X.nox st t):PSs X st t:=fun pins s σ H D I hw=>
 wpAny_mono (h pins s σ H D (I.wish _) hw) (fun _ _ q=>q.unwish) fun _ _ z=>False.elim z
end
section
variable {X:Cx} {st:Stmt} {rest:List Stmt} {t u:TS} {e:Expr} {te:TE} {pos:Pos}
theorem Inv.quiet {pins:List (Addr×Obj)} {σ:St} {H:Hp} {s:Shared} (I:Inv X pins σ H s):interactive X.env=false:=by simp[interactive,I.ok.kind]
def tRetN:TS:=fun D _ H=>D.rt .non H
end
abbrev TSet:=V->V->V->Hp->(Hp->Prop)->Prop
noncomputable def PSet (X:Cx) (t:TSet):Prop:=
 ∀(pins:List (Addr×Obj)) (s:Shared) (σ:St) (H:Hp) (o i v:V) (ov iv u:Value) (Q:Hp->Prop),Inv X pins σ H s->RelV o ov->RelV i iv->RelV v u->t o i v H Q->
  wpAny (model X.prog X.w) X.A (setItem ov iv u) (fun _ s'=>∃H',Inv X pins σ H' s'/\Q H') X.xe s
section
variable {X:Cx} {pos:Pos}
def tPar (i j:Nat) (ta:TA):TS:=fun D σ H=>ta σ H fun vs H1=>∃v w,vs=[v,w]/\D.nx ((σ.set i (some v)).set j (some w)) H1
end
section
variable {X:Cx} {pos:Pos}
end
structure It where
 go:Nat->Hp->Prop
 yld:Nat->Hp->V->Hp->Prop
 stop:Nat->Hp->Prop
noncomputable def FpOk (X:Cx) (pins:List (Addr×Obj)) (H:Hp) (b:Addr):Prop:=
 H b=none/\b≠X.env.locals/\b∉X.fs/\(b∈X.ex\/X.s₀.heap.objs.size<=b)/\(∀x c,X.env.cells.lookup x=some c->c≠b)/\∀p∈X.pn++pins,p.1≠b
theorem Inv.fpOk {X:Cx} {pins:List (Addr×Obj)} {σ:St} {H H':Hp} {s:Shared} {b:Addr} (I:Inv X pins σ H s) (hb:s.heap.objs.size<=b) (hn:H' b=none):FpOk X pins H' b:=by
 refine⟨hn,Nat.ne_of_gt (Nat.lt_of_lt_of_le I.lt hb),I.nofs hb,.inr (Nat.le_trans I.sz hb),fun x c e z=> ?_,fun p hp z=> ?_⟩
 ·obtain⟨v,q⟩:=I.cell x c e
  exact absurd (Nat.lt_of_lt_of_le q.lt (by rw[z];exact hb)) (Nat.lt_irrefl _)
 ·exact absurd (Nat.lt_of_lt_of_le (Heap.lt_size (I.pin p hp).1) (by rw[z];exact hb)) (Nat.lt_irrefl _)
structure Turn (P:Program) (w:World) (K:PySem.W.Frag) (tg:Expr) (J:It) (fp:List Addr) (it:Addr) (tn:Nat->Heap->Prop):Prop where
 mem:it∈fp
 obj:∀i h,tn i h->∀b∈fp,∃o,h.get? b=some o/\∀v,o.data≠ .cell v
 keep:∀i h h',tn i h->(∀b∈fp,∀o,h.get? b=some o->h'.get? b=some o)->tn i h'
 item:∀(X:Cx),X.prog=P->X.w=w->X.K=K->X.calm=true->∀(i:Nat) (pins:List (Addr×Obj)) (s:Shared) (σ:St) (H:Hp) (E:Value->Shared->Prop),Inv X pins σ H s->(∀b∈fp,FpOk X pins H b)->tn i s.heap->J.go i H->
  wpAny (model P w) X.A (pyNext (.ref it)) (fun r s1=>∃u,r=some u/\
   wpAny (model P w) X.A (letOwnedTupleGo tg (.ref it) u) (fun _ s2=>∃x H',Inv X pins σ H' s2/\RelV x u/\J.yld i H x H'/\tn (i+1) s2.heap/\∀b∈fp,H' b=none) E s1) E s
 done:∀(X:Cx),X.prog=P->X.w=w->X.K=K->X.calm=true->∀(i:Nat) (pins:List (Addr×Obj)) (s:Shared) (σ:St) (H:Hp) (E:Value->Shared->Prop),Inv X pins σ H s->(∀b∈fp,FpOk X pins H b)->tn i s.heap->J.stop i H->
  wpAny (model P w) X.A (pyNext (.ref it)) (fun r s1=>r=none/\Inv X pins σ H s1) E s
 self:∀(A:Around) (i:Nat) (s:Shared) (Q:Value->Shared->Prop) (E:Value->Shared->Prop),tn i s.heap->Q (.ref it) s->wpAny (model P w) A (pyIter (.ref it)) Q E s
abbrev TI:=St->Hp->(It->Hp->Prop)->Prop
noncomputable def PIE (X:Cx) (pins:List (Addr×Obj)) (σ:St) (tg:Expr) (R:It->Hp->Prop) (itv:Value) (s2:Shared):Prop:=
 ∃(it:Addr) (fp:List Addr) (tn:Nat->Heap->Prop) (J:It) (H':Hp),itv= .ref it/\Inv X pins σ H' s2/\Turn X.prog X.w X.K tg J fp it tn/\tn 0 s2.heap/\(∀b∈fp,FpOk X pins H' b)/\R J H'
theorem qJ0 {M:Model} {A:Around} {E:Value->Shared->Prop} {s:Shared} {tg:Expr} {it:Addr} {u:Value} {o:Obj} {n:String} {vs:Array Value} {Q:Unit->Shared->Prop} (ho:s.heap.get? it=some o) (hc:o.cls= .type n) (hd:o.data= .fields vs)
  (hn:["enumerate","zip","dict_itemiterator","dict_reverseitemiterator","odict_iterator","itertools.zip_longest","itertools.pairwise"].contains n=false) (hQ:Q () s):wpAny M A (letOwnedTupleGo tg (.ref it) u) Q E s:=by
 unfold letOwnedTupleGo
 cases tg<;>first
  | exact wpAny_pure hQ
  | (cases u<;>first
    | exact wpAny_pure hQ
    | (refine wpAny_bind (wpAny_load ho ?_)
       rw[hc,hd]
       show wpAny M A (if (["enumerate","zip","dict_itemiterator","dict_reverseitemiterator","odict_iterator","itertools.zip_longest","itertools.pairwise"].contains n&&vs[0]? == some (rawInt _))=true then _ else _) Q E s
       rw[if_neg (by intro h;rw[hn,Bool.false_and] at h;cases h)]
       exact wpAny_pure hQ))
noncomputable def Itl (K:PySem.W.Frag) (a:Addr):It:=
 ⟨fun i H=>∃xs x,SqL K H a xs/\xs[i]? =some x,fun i H x H'=>H'=H/\∀xs,SqL K H a xs->xs[i]? =some x,fun i H=>∃xs,SqL K H a xs/\xs.length<=i⟩
noncomputable def Itt (K:PySem.W.Frag) (a:Addr):It:=
 ⟨fun i H=>∃xs x,SqT K H a xs/\xs[i]? =some x,fun i H x H'=>H'=H/\∀xs,SqT K H a xs->xs[i]? =some x,fun i H=>∃xs,SqT K H a xs/\xs.length<=i⟩
def Itr (lo:Int) (n:Nat):It:=⟨fun i _=>i<n,fun i H x H'=>H'=H/\x= .int (lo+i),fun i _=>n<=i⟩
theorem kV2 {P:Program} {w:World} {K:PySem.W.Frag} {tg:Expr} (a it:Addr):Turn P w K tg (Itl K a) [it] it (fun i h=>h.IsListIter it a i) where
 mem:=by simp
 obj:=fun i h st b hb=>by
  have e:b=it:=by simpa using hb
  subst e
  obtain⟨o,e,c,d⟩:=st
  exact⟨o,e,fun v z=>by rw[d] at z;cases z⟩
 keep:=fun i h h' st k=>st.at fun o e=>k it (by simp) o e
 item:=by
  intro X hP hw hK hc i pins s σ H E I hf st hg
  subst hP hw hK
  obtain⟨xs,x,hq,hx⟩:=hg
  obtain⟨its,rv,p,hz⟩:=I.list hq
  obtain⟨u,hu,ru⟩:=rv.get hx
  obtain⟨f0,f1,f2,f3,f4,f5⟩:=hf it (by simp)
  refine wpAny_pyNext_list_item st p.isList (x:=u) (by simpa using hu) fun h' st' sb=> ?_
  have I1:Inv X pins σ H {s with heap:=h'}:=I.turned (t':=s.toks) (fun b o hb e=>(sb.2 b hb).trans e) f0 f1 f3 f4 f5
  obtain⟨o,e,c,d⟩:=id st'
  exact⟨u,rfl,qJ0 (s:={s with heap:=h'}) e c d (by decide) ⟨x,H,I1,ru,⟨rfl,fun ys hy=>by rw[I.list_inj hy hq];exact hx⟩,st',fun b hb=>(hf b hb).1⟩⟩
 done:=by
  intro X hP hw hK hc i pins s σ H E I hf st hg
  subst hP hw hK
  obtain⟨xs,hq,hx⟩:=hg
  obtain⟨its,rv,p,hz⟩:=I.list hq
  obtain⟨f0,f1,f2,f3,f4,f5⟩:=hf it (by simp)
  have hl:=rv.length
  exact wpAny_pyNext_list_end (I.ok.hd hc) st p.isList (by simp;omega) fun h' eb=>⟨rfl,I.turned (t':=s.toks) (fun b o hb e=>eb b o hb e) f0 f1 f3 f4 f5⟩
 self:=fun _ _ _ _ _ st h=>wpAny_pyIter_listiter st h
theorem kU5 {P:Program} {w:World} {K:PySem.W.Frag} {tg:Expr} (a it:Addr):Turn P w K tg (Itt K a) [it] it (fun i h=>h.IsTupleIter it a i) where
 mem:=by simp
 obj:=fun i h st b hb=>by
  have e:b=it:=by simpa using hb
  subst e
  obtain⟨o,e,c,d⟩:=st
  exact⟨o,e,fun v z=>by rw[d] at z;cases z⟩
 keep:=fun i h h' st k=>st.at fun o e=>k it (by simp) o e
 item:=by
  intro X hP hw hK hc i pins s σ H E I hf st hg
  subst hP hw hK
  obtain⟨xs,x,hq,hx⟩:=hg
  obtain⟨its,rv,p,hz⟩:=I.tuple hq
  obtain⟨u,hu,ru⟩:=rv.get hx
  obtain⟨f0,f1,f2,f3,f4,f5⟩:=hf it (by simp)
  refine wpAny_pyNext_tuple_item st (show s.heap.IsTuple a its.toArray from p) (x:=u) (by simpa using hu) fun h' st' sb=> ?_
  have I1:Inv X pins σ H {s with heap:=h'}:=I.turned (t':=s.toks) (fun b o hb e=>(sb.2 b hb).trans e) f0 f1 f3 f4 f5
  obtain⟨o,e,c,d⟩:=id st'
  exact⟨u,rfl,qJ0 (s:={s with heap:=h'}) e c d (by decide) ⟨x,H,I1,ru,⟨rfl,fun ys hy=>by rw[I.tuple_inj hy hq];exact hx⟩,st',fun b hb=>(hf b hb).1⟩⟩
 done:=by
  intro X hP hw hK hc i pins s σ H E I hf st hg
  subst hP hw hK
  obtain⟨xs,hq,hx⟩:=hg
  obtain⟨its,rv,p,hz⟩:=I.tuple hq
  obtain⟨f0,f1,f2,f3,f4,f5⟩:=hf it (by simp)
  have hl:=rv.length
  exact wpAny_pyNext_tuple_end (I.ok.hd hc) st (show s.heap.IsTuple a its.toArray from p) (by simp;omega) fun h' eb=>⟨rfl,I.turned (t':=s.toks) (fun b o hb e=>eb b o hb e) f0 f1 f3 f4 f5⟩
 self:=fun _ _ _ _ _ st h=>wpAny_pyIter_tupleiter st h
theorem kU6 {P:Program} {w:World} {K:PySem.W.Frag} {tg:Expr} (it:Addr) (lo:Int) (n:Nat):Turn P w K tg (Itr lo n) [it] it (fun i h=>IsRangeIter h it (lo+(i:Nat)*1) ((n:Int)-(i:Nat)) 1) where
 mem:=by simp
 obj:=fun i h st b hb=>by
  have e:b=it:=by simpa using hb
  subst e
  exact⟨_,st,fun v z=>by
   have z':Data.fields _=Data.cell v:=z
   cases z'⟩
 keep:=fun i h h' st k=>k it (by simp) _ st
 item:=by
  intro X hP hw hK hc i pins s σ H E I hf st hg
  subst hP hw hK
  obtain⟨f0,f1,f2,f3,f4,f5⟩:=hf it (by simp)
  have W:=Walks.range (prog:=X.prog) (w:=X.w) (I.ok.hd hc) it lo 1 n
  refine W.item i s _ _ hg st fun v h' tk hv st' kk=> ?_
  obtain⟨t,rfl⟩:=hv
  have I1:Inv X pins σ H {s with heap:=h',toks:=tk}:=I.turned (fun b o hb e=>kk b o (by simpa using hb) e) f0 f1 f3 f4 f5
  refine⟨_,rfl,qJ0 (s:={s with heap:=h',toks:=tk}) (n:="range_iterator") st' rfl rfl (by decide) ⟨.int (lo+i),H,I1,⟨t,?_⟩,⟨rfl,rfl⟩,st',fun b hb=>(hf b hb).1⟩⟩
  rw[Int.mul_one]
 done:=by
  intro X hP hw hK hc i pins s σ H E I hf st hg
  subst hP hw hK
  obtain⟨f0,f1,f2,f3,f4,f5⟩:=hf it (by simp)
  exact wpAny_pyNext_range_end (I.ok.hd hc) st (by have:n<=i:=hg;omega) fun h' eb=>⟨rfl,I.turned (t':=s.toks) (fun b o hb e=>eb b o hb e) f0 f1 f3 f4 f5⟩
 self:=fun _ _ _ _ _ st h=>wpAny_pyIter_rangeiter st h
section
variable {X:Cx} {tg:Expr}
theorem kQ3 {pins:List (Addr×Obj)} {σ:St} {H:Hp} {s:Shared} {R:It->Hp->Prop} {E:Value->Shared->Prop} {lo hi:Int} {t u v:Tok} {tk:Nat} (I:Inv X pins σ H s) (h1: -(2^62)<=lo) (h2:lo<2^62) (h3: -(2^62)<=hi) (h4:hi<2^62)
  (q:R (Itr lo (hi-lo).toNat) H):wpAny (model X.prog X.w) X.A (pyIter (.ref s.heap.objs.size)) (PIE X pins σ tg R) E {s with heap:=s.heap.push {cls:= .type "range",data:= .fields #[.int lo t,.int hi u,.int 1 v]},toks:=tk}:=by
 refine wpAny_pyIter_range (IsRange.new ..) (small_one h1 h2 h3 h4) ?_
 have I1:Inv X pins σ H {s with heap:=s.heap.push {cls:= .type "range",data:= .fields #[.int lo t,.int hi u,.int 1 v]},toks:=tk}:=I.kept fun b o e=>Heap.get?_push_of_some _ e
 refine⟨(s.heap.push {cls:= .type "range",data:= .fields #[.int lo t,.int hi u,.int 1 v]}).objs.size,[(s.heap.push {cls:= .type "range",data:= .fields #[.int lo t,.int hi u,.int 1 v]}).objs.size],_,_,H,rfl,
  I1.kept (t':=tk) fun b o e=>Heap.get?_push_of_some _ e,kU6 _ lo (hi-lo).toNat,?_,fun b hb=> ?_,q⟩
 ·have e1:lo+((0:Nat):Int)*1=lo:=by simp
  have e2:(((hi-lo).toNat:Nat):Int)-((0:Nat):Int)=Builtin.Range.rangeSize lo hi 1:=by rw[rangeSize_one];split<;>omega
  show IsRangeIter _ _ (lo+((0:Nat):Int)*1) ((((hi-lo).toNat:Nat):Int)-((0:Nat):Int)) 1
  rw[e1,e2]
  exact Heap.get?_push_size _ rfl
 ·have e:b=(s.heap.push {cls:= .type "range",data:= .fields #[.int lo t,.int hi u,.int 1 v]}).objs.size:=by simpa using hb
  subst e
  exact I1.fpOk (Nat.le_refl _) (I1.hok.fresh (Nat.le_refl _))
def jQh (fp:List Addr) (h:Heap):List (Addr×Obj):=fp.filterMap fun b=>(h.get? b).map fun o=>(b,o)
theorem jQd {fp:List Addr} {h:Heap} {b:Addr} {o:Obj} (hb:b∈fp) (e:h.get? b=some o):(b,o)∈jQh fp h:=List.mem_filterMap.mpr ⟨b,hb,by rw[e];rfl⟩
theorem kX2 {fp:List Addr} {h:Heap} {p:Addr×Obj} (hp:p∈jQh fp h):p.1∈fp/\h.get? p.1=some p.2:=by
 obtain⟨b,hb,e⟩:=List.mem_filterMap.mp hp
 cases q:h.get? b with
 | none=>rw[q] at e;cases e
 | some o=>
  rw[q] at e
  have e':(b,o)=p:=Option.some.inj e
  subst e'
  exact⟨hb,q⟩
theorem Inv.pinned {pins:List (Addr×Obj)} {σ:St} {H:Hp} {s:Shared} {fp:List Addr} (I:Inv X pins σ H s) (hf:∀b∈fp,FpOk X pins H b) (ho:∀b∈fp,∃o,s.heap.get? b=some o/\∀v,o.data≠ .cell v):Inv X (pins++jQh fp s.heap) σ H s:=
 I.pins_of fun p hp=>(List.mem_append.mp hp).elim (fun z=>I.pin p (List.mem_append_right _ z)) fun z=>by
  obtain⟨hb,e⟩:=kX2 z
  obtain⟨f0,f1,f2,_⟩:=hf p.1 hb
  obtain⟨o,e',d⟩:=ho p.1 hb
  rw[e] at e';cases e'
  exact⟨e,f0,f1,f2,d⟩
theorem Inv.unpinned {pins pl:List (Addr×Obj)} {σ:St} {H:Hp} {s:Shared} (I:Inv X (pins++pl) σ H s):Inv X pins σ H s:=I.pins_of fun p hp=>I.pin p (List.mem_append_right _ (List.mem_append_left _ hp))
end
abbrev R2:=V->V->Hp->VK->Prop
noncomputable def OpR (X:Cx) (f:Value->Value->Sem Value) (r:R2):Prop:=
 ∀(pins:List (Addr×Obj)) (s:Shared) (σ:St) (H:Hp) (x y:V) (v u:Value) (Q:VK),Inv X pins σ H s->RelV x v->RelV y u->r x y H Q->
  wpAny (model X.prog X.w) X.A (f v u) (EP X pins σ Q) X.xe s
noncomputable def kKy (X:Cx) (f:Value) (r:List V->Hp->VK->Prop):Prop:=
 ∀(pins:List (Addr×Obj)) (s:Shared) (σ:St) (H:Hp) (xs:List V) (us:List Value) (Q:VK),Inv X pins σ H s->Vals xs us->r xs H Q->
  wpAny (model X.prog X.w) X.A (call f us) (EP X pins σ Q) X.xe s
noncomputable def TruR (X:Cx) (r:V->Hp->(Bool->Hp->Prop)->Prop):Prop:=
 ∀(pins:List (Addr×Obj)) (s:Shared) (σ:St) (H:Hp) (x:V) (v:Value) (Q:Bool->Hp->Prop),Inv X pins σ H s->RelV x v->r x H Q->
  wpAny (model X.prog X.w) X.A (truthy v) (TP X pins σ Q) X.xe s
def tUn (r:V->Hp->VK->Prop) (ta:TE):TE:=fun σ H Q=>ta σ H fun x H1=>r x H1 Q
def rI (C:Int->Int->Prop) (g:Int->Int->V):R2:=fun x y H Q=>∃i j,x= .int i/\y= .int j/\C i j/\Q (g i j) H
def rI0 (g:Int->Int->V):R2:=fun x y H Q=>∃i j,x= .int i/\y= .int j/\Q (g i j) H
section
variable {X:Cx} {a b c:Expr} {ta tb tc:TE} {pos:Pos}
theorem opI {f:Value->Value->Sem Value} {C:Int->Int->Prop} {g:Int->Int->Int}
  (rule:∀(i j:Int) (t u:Tok) (s:Shared) (Q:Value->Shared->Prop) (E:Value->Shared->Prop),C i j->Q (.int (g i j) s.toks) {s with toks:=s.toks+1}->wpAny (model X.prog X.w) X.A (f (.int i t) (.int j u)) Q E s):
  OpR X f (rI C fun i j=> .int (g i j)):=by
 intro pins s σ H x y v u Q I rx ry h
 obtain⟨i,j,rfl,rfl,hc,q⟩:=h
 obtain⟨t,rfl⟩:=rx
 obtain⟨t',rfl⟩:=ry
 exact rule i j t t' s _ _ hc ⟨.int (g i j),H,I.tok _,⟨_,rfl⟩,q⟩
theorem opI0 {f:Value->Value->Sem Value} {g:Int->Int->Int}
  (rule:∀(i j:Int) (t u:Tok) (s:Shared) (Q:Value->Shared->Prop) (E:Value->Shared->Prop),Q (.int (g i j) s.toks) {s with toks:=s.toks+1}->wpAny (model X.prog X.w) X.A (f (.int i t) (.int j u)) Q E s):
  OpR X f (rI0 fun i j=> .int (g i j)):=by
 intro pins s σ H x y v u Q I rx ry h
 obtain⟨i,j,rfl,rfl,q⟩:=h
 obtain⟨t,rfl⟩:=rx
 obtain⟨t',rfl⟩:=ry
 exact rule i j t t' s _ _ ⟨.int (g i j),H,I.tok _,⟨_,rfl⟩,q⟩
theorem opB0 {f:Value->Value->Sem Value} {g:Int->Int->Bool}
  (rule:∀(i j:Int) (t u:Tok) (s:Shared) (Q:Value->Shared->Prop) (E:Value->Shared->Prop),Q (.bool (g i j)) s->wpAny (model X.prog X.w) X.A (f (.int i t) (.int j u)) Q E s):
  OpR X f (rI0 fun i j=> .bl (g i j)):=by
 intro pins s σ H x y v u Q I rx ry h
 obtain⟨i,j,rfl,rfl,q⟩:=h
 obtain⟨t,rfl⟩:=rx
 obtain⟨t',rfl⟩:=ry
 exact rule i j t t' s _ _ ⟨.bl (g i j),H,I,rfl,q⟩
def CDiv (i j:Int):Prop:=0<j/\j<1073741824
def CPow (i j:Int):Prop:=0<=j/\j<=1000000/\i.natAbs<2^64
def CMul (i j:Int):Prop:=(-(2^64)<i/\i<2^64)\/(-(2^64)<j/\j<2^64)
theorem CMul.ok {i j:Int} (h:CMul i j):IntMulOk i j:=by
 rcases h with ⟨h1,h2⟩ | ⟨h1,h2⟩
 ·exact .of_left (intBits_le_64 h1 h2)
 ·exact .of_right (intBits_le_64 h1 h2)
theorem op_add:OpR X (binaryOp .Add) (rI0 fun i j=> .int (i+j)):=opI0 fun _ _ _ _ _ _ _ q=>add_int q
theorem op_mul:OpR X (binaryOp .Mult) (rI CMul fun i j=> .int (i*j)):=opI fun _ _ _ _ _ _ _ hc q=>mul_int q hc.ok
theorem qQr:OpR X (binaryOp .FloorDiv) (rI CDiv fun i j=> .int (i / j)):=opI fun i j _ _ _ _ _ hc q=>by
 have h1:(0:Int)<j:=hc.1
 have h2:j<1073741824:=hc.2
 exact floordiv_int (by omega) (by rw[Int.fdiv_eq_ediv_of_nonneg i (by omega)];exact q) (.inl (PyProof.noPylong_small (by omega)))
theorem op_mod:OpR X (binaryOp .Mod) (rI (fun _ j=>0<j) fun i j=> .int (i%j)):=opI fun i j _ _ _ _ _ hc q=>by
 have h1:(0:Int)<j:=hc
 exact mod_int' (by omega) (by rw[Int.fmod_eq_emod_of_nonneg i (by omega)];exact q)
theorem op_pow:OpR X (binaryOp .Pow) (rI CPow fun i j=> .int (i^j.toNat)):=opI fun _ _ _ _ _ _ _ hc q=>pow_int_small hc.1 hc.2.1 hc.2.2 q
end
section
variable {X:Cx} {a b c:Expr} {ta tb tc:TE} {pos:Pos}
theorem fin_bl {pins:List (Addr×Obj)} {σ:St} {H:Hp} {s:Shared} {Q:VK} {k k':Bool} (I:Inv X pins σ H s) (q:Q (.bl k) H) (e:k=k'):EP X pins σ Q (.bool k') s:=by
 subst e
 exact⟨.bl k,H,I,rfl,q⟩
theorem op_lt:OpR X (compareOp .Lt) (rI0 fun i j=> .bl (decide (i<j))):=opB0 fun _ _ _ _ _ _ _ q=>lt_int q
theorem op_le:OpR X (compareOp .LtE) (rI0 fun i j=> .bl (decide (i<=j))):=opB0 fun _ _ _ _ _ _ _ q=>le_int q
theorem op_gt:OpR X (compareOp .Gt) (rI0 fun i j=> .bl (decide (j<i))):=opB0 fun _ _ _ _ _ _ _ q=>gt_int q
theorem op_ge:OpR X (compareOp .GtE) (rI0 fun i j=> .bl (decide (j<=i))):=opB0 fun _ _ _ _ _ _ _ q=>ge_int q
theorem op_isN:OpR X (compareOp .Is) (fun x y H Q=>y= .non/\Q (.bl (decide (x= .non))) H):=by
 intro pins s σ H x y v u Q I rx ry h
 obtain⟨rfl,q⟩:=h
 cases ry
 refine is_none_gen (fin_bl I q ?_)
 cases x<;>first
  | (cases rx;rfl)
  | (obtain⟨t,rfl⟩:=rx;rfl)
theorem nomark (b:Expr) {op:CmpOp} (h:op≠ .In:=by decide) (h2:op≠ .NotIn:=by decide):behindInMarks op b=false:=by
 have e1:(op == CmpOp.In)=false:=by cases op<;>first | rfl | exact absurd rfl h
 have e2:(op == CmpOp.NotIn)=false:=by cases op<;>first | rfl | exact absurd rfl h2
 cases b<;>simp[behindInMarks,e1,e2]
noncomputable def TruV (K:PySem.W.Frag) (x:V) (H:Hp) (k:Bool):Prop:=
 match x with
 | .non=>k=false
 | .bl b=>k=b
 | .int i=>k=(i != 0)
 | .str y=>y.length<=sizeLine/\k=((y.length:Int) != 0)
 | .byt y=>y.size<=sizeLine/\k=((y.size:Int) != 0)
 | .ref p=>(∃xs,SqL K H p xs/\k= !xs.isEmpty)\/(∃xs,SqT K H p xs/\k= !xs.isEmpty)\/∃kvs,H p=some (.dK kvs)/\k= !kvs.isEmpty
 | _=>False
theorem kVr {κ:Type} {kvs:List (κ×V)} {vs:List (κ×Value)} (r:KV kvs vs):(!vs.isEmpty)= !kvs.isEmpty:=by
 cases r<;>rfl
theorem jZm {xs:List V} {its:List Value} (r:Vals xs its):(!its.toArray.isEmpty)= !xs.isEmpty:=by
 cases r<;>simp
theorem kJ3:(sizeLine:Nat)<2^63:=by rw[sizeLine_eq];decide
theorem tru_ok:TruR X (fun x H Q=>∃k,TruV X.K x H k/\Q k H):=by
 intro pins s σ H x v Q I rx h
 obtain⟨k,e,q⟩:=h
 have hl:=kJ3
 have hs:sizeLine=16777216:=sizeLine_eq
 cases x with
 | non=>
  cases rx
  have e':k=false:=e
  subst e'
  exact truthy_none ⟨H,I,q⟩
 | bl b=>
  cases rx
  have e':k=b:=e
  subst e'
  exact wpAny_truthy_bool ⟨H,I,q⟩
 | int i=>
  obtain⟨t,rfl⟩:=rx
  have e':k=(i != 0):=e
  subst e'
  exact PySem.P.truthy_int ⟨H,I,q⟩
 | str y=>
  obtain⟨t,rfl⟩:=rx
  obtain⟨hy,e'⟩:y.length<=sizeLine/\k=((y.length:Int) != 0):=e
  subst e'
  exact PySem.P.truthy_str (by omega) ⟨H,I.tok _,q⟩
 | byt y=>
  obtain⟨t,rfl⟩:=rx
  obtain⟨hy,e'⟩:y.size<=sizeLine/\k=((y.size:Int) != 0):=e
  subst e'
  exact PySem.W.truthy_bytes (by omega) ⟨H,I.tok _,q⟩
 | ref p=>
  cases rx
  have e':(∃xs,SqL X.K H p xs/\k= !xs.isEmpty)\/(∃xs,SqT X.K H p xs/\k= !xs.isEmpty)\/∃kvs,H p=some (.dK kvs)/\k= !kvs.isEmpty:=e
  rcases e' with ⟨xs,hx,e'⟩ | ⟨xs,hx,e'⟩ | ⟨kvs,hx,e'⟩
  ·subst e'
   obtain⟨its,r,pl,hz⟩:=I.list hx
   have hlen:=r.length
   exact wpAny_truthy_list pl.isList (by simp only[List.size_toArray];omega) ⟨H,I.tok _,by rw[jZm r];exact q⟩
  ·subst e'
   obtain⟨its,r,pl,hz⟩:=I.tuple hx
   have hlen:=r.length
   exact truthy_tuple pl (by simp only[List.size_toArray];omega) ⟨H,I.tok _,by rw[jZm r];exact q⟩
  ·subst e'
   obtain⟨hz,hS,vs,r,m⟩:kvs.length<=sizeLine/\(p == sysModules)=false/\∃vs,KV kvs vs/\s.heap.DictOf (jJw X.prog X.w) p vs:=I.hok p _ hx
   have hlen:kvs.length=vs.length:=Paired.length r
   exact wpAny_truthy_dict hS m (by omega) ⟨H,I.tok _,by rw[kVr r];exact q⟩
 | _=>exact (show False from e).elim
theorem kVz {x:V} {us:List Value} (r:Vals [x] us):∃u,us=[u]/\RelV x u:=by
 cases r with
 | cons r1 r2=>cases r2;exact⟨_,rfl,r1⟩
theorem vals2 {x y:V} {us:List Value} (r:Vals [x,y] us):∃u w',us=[u,w']/\RelV x u/\RelV y w':=by
 cases r with
 | cons r1 r2=>
  cases r2 with
  | cons r3 r4=>cases r4;exact⟨_,_,rfl,r1,r3⟩
theorem qJ8:kKy X (.builtin "abs") (fun xs H Q=>∃i,xs=[.int i]/\Q (.int (if i<0 then -i else i)) H):=by
 intro pins s σ H xs us Q I r h
 obtain⟨i,rfl,q⟩:=h
 obtain⟨u,rfl,t,rfl⟩:=kVz r
 exact call_abs_int fun u tk=>⟨.int (if i<0 then -i else i),H,I.tok _,⟨_,rfl⟩,q⟩
theorem kZe (hc:X.calm=true):kKy X (.builtin "max") (fun xs H Q=>∃i j,xs=[.int i,.int j]/\Q (.int (if j>i then j else i)) H):=by
 intro pins s σ H xs us Q I r h
 obtain⟨i,j,rfl,q⟩:=h
 obtain⟨u,w',rfl,⟨t,rfl⟩,⟨t',rfl⟩⟩:=vals2 r
 refine max_two_ints (I.ok.hd hc) fun h' tk k=>⟨_,H,I.kept k,?_,q⟩
 by_cases hj:j>i
 ·rw[if_pos hj,if_pos hj];exact⟨_,rfl⟩
 ·rw[if_neg hj,if_neg hj];exact⟨_,rfl⟩
theorem kZc (hc:X.calm=true):kKy X (.builtin "min") (fun xs H Q=>∃i j,xs=[.int i,.int j]/\Q (.int (if j<i then j else i)) H):=by
 intro pins s σ H xs us Q I r h
 obtain⟨i,j,rfl,q⟩:=h
 obtain⟨u,w',rfl,⟨t,rfl⟩,⟨t',rfl⟩⟩:=vals2 r
 refine min_two_ints (I.ok.hd hc) fun h' tk k=>⟨_,H,I.kept k,?_,q⟩
 by_cases hj:j<i
 ·rw[if_pos hj,if_pos hj];exact⟨_,rfl⟩
 ·rw[if_neg hj,if_neg hj];exact⟨_,rfl⟩
end
section
variable {prog:Program} {w:World} {A:Around} {E:Value->Shared->Prop} {s:Shared} {K:PySem.W.Frag} {x dx C f:Addr} {mA:Str->Option Value} {name:Str} {v:Value}
end
theorem RelO.some_of {v:V} {o:Option Value} (r:RelO (some v) o):∃u,o=some u/\RelV v u:=by
 cases o with
 | none=>exact (show False from r).elim
 | some u=>exact⟨u,rfl,r⟩
section
variable {P:Program} {w:World} {H H':Hp} {h h':Heap} {a C dx:Addr} {fs fs':List (Str×V)}
end
section
variable {X:Cx} {pins:List (Addr×Obj)} {σ:St} {H:Hp} {s:Shared} {a C dx:Addr} {fs:List (Str×V)} {f:Str} {v:V} {A:Around} {E:Value->Shared->Prop}
end
section
variable {X:Cx} {o e value:Expr} {f:Str} {pos pos' tpos:Pos} {ta tv:TE}
def rSub:V->V->Hp->VK->Prop:=fun x y H Q=>∃i j,x= .int i/\y= .int j/\Q (.int (i-j)) H
end
section
variable {X:Cx} {pins:List (Addr×Obj)} {σ:St} {H:Hp} {s:Shared} {A:Around} {E:Value->Shared->Prop} {Q:Value->Shared->Prop} {c:Value} {b:Bool}
end
structure Room (k:Nat) (A:Around):Prop where
 hd:A.handled=none
 gd:A.guards=some []
 dp:A.depth+3*k+5<recursionLimit
 un:A.units+16*k+200<cLine
theorem Room.mono {j k:Nat} {A:Around} (r:Room k A) (h:j<=k):Room j A:=⟨r.hd,r.gd,by have:=r.dp;omega,by have:=r.un;omega⟩
theorem Room.deeper {k:Nat} {A:Around} (r:Room (k+1) A) (env:Env):Room k (A.deeper env):=
 ⟨r.hd,r.gd,by have:=r.dp;show A.depth+1+3*k+5<_;omega,by have:=r.un;show A.units+3+16*k+200<_;omega⟩
theorem Room.depth {k:Nat} {A:Around} (r:Room k A):A.depth<recursionLimit:=by have:=r.dp;omega
theorem Room.units {k:Nat} {A:Around} (r:Room k A):A.units+64<cLine:=by have:=r.un;omega
section
variable {X:Cx} {e:Expr} {es:List Expr} {te:TE} {t:TA} {pos:Pos}
end
abbrev Sp:=List V->Hp->VK->XK->Prop
abbrev CXT:=List Env->Hp->Shared->XK->Value->Shared->Prop
structure Env0 (P:Program) (w:World) (K:PySem.W.Frag) (mg:Str->Option Value) (base:Heap) (A:Around) (outer:List Env) (s:Shared) (H:Hp):Prop where
 frames:A.frames=some outer
 mod:Mod K mg base
 bs:∀b o,base.get? b=some o->s.heap.get? b=some o/\H b=none
 bsz:base.objs.size<=s.heap.objs.size
 funs:s.heap.FunFrames base outer
 frf:∀b∈frs outer,H b=none
 hok:HOk P w H s.heap
 bare:AllBare s.gens
noncomputable def CE (outer:List Env) (P:Program) (w:World) (H:Hp) (s:Shared) (Q:VK) (u:Value) (s':Shared):Prop:=
 ∃v H',s'.os=s.os/\AllBare s'.gens/\Un (frs outer) [] H H' s.heap s'.heap/\HOk P w H' s'.heap/\RelV v u/\Q v H'
noncomputable def CR (CX:CXT) (outer:List Env) (P:Program) (w:World) (H:Hp) (s:Shared) (Q:VK) (E:XK) (r:Result) (s':Shared):Prop:=
 match r with
 | .ok (.ret u)=>CE outer P w H s Q u s'
 | .ok _=>False
 | .error e=>CX outer H s E e s'
structure FnOk (P:Program) (w:World) (K:PySem.W.Frag) (mg:Str->Option Value) (base:Heap) (CX:CXT) (k:Nat) (f:Addr) (fd:FuncData) (ps:List Str) (sp:Sp):Prop where
 len:∀vs H Q E,sp vs H Q E->vs.length=ps.length
 run:∀(A:Around) (outer:List Env) (s:Shared) (H:Hp) (args:Args) (us:List Value) (vs:List V) (Q:VK) (E:XK),Room k A->Env0 P w K mg base A outer s H->BindsTo s fd args (ps.zip us)->Vals vs us->sp vs H Q E->
  codeAny (model P w) A (.call (.ref f) args) (CR CX outer P w H s Q E) s
section
variable {X:Cx} {pins:List (Addr×Obj)} {σ:St} {H:Hp} {s s':Shared}
theorem Inv.env0 (I:Inv X pins σ H s):Env0 X.prog X.w X.K X.mg X.base X.A X.stack s H:=
 ⟨I.ok.frames,I.ok.mod,I.bs,Nat.le_trans I.ok.bsz I.sz,I.stack,I.stkFree,I.hok,I.bare⟩
theorem Inv.after {Q:VK} {u:Value} (I:Inv X pins σ H s) (h:CE X.stack X.prog X.w H s Q u s'):EP X pins σ Q u s':=by
 obtain⟨v,H',os,bare,un,hok,r,q⟩:=h
 obtain⟨hh,g,d,t,os'⟩:=s'
 obtain rfl:os'=s.os:=os
 exact⟨v,H',I.call (h':=hh) (g':=g) (d':=d) (t':=t) (ch:=[]) un hok bare (fun b z=>absurd z (by simp)),r,q⟩
end
noncomputable def Binds (K:PySem.W.Frag) (fd:FuncData) (ps:List Str) (ds:List Value):Prop:=
 ∀(s:Shared) (us:List Value),K.In s.heap->(us++ds).length=ps.length->BindsTo s fd ⟨us,[]⟩ (ps.zip (us++ds))
theorem Binds.all {K:PySem.W.Frag} {fd:FuncData} {ps:List Str} (h:∀us:List Value,us.length=ps.length->bindArgs fd ⟨us,[]⟩=pure (ps.zip us)):Binds K fd ps []:=fun s us _ hl=>by
 rw[List.append_nil] at hl ⊢
 exact .of_eq (h us hl)
def qK2 (CX:CXT) (X:Cx) (E:XK):Prop:=∀(pins:List (Addr×Obj)) (σ:St) (H:Hp) (s:Shared) (e:Value) (s':Shared),Inv X pins σ H s->CX X.stack H s E e s'->X.xe e s'
section
variable {X:Cx} {CX:CXT} {k:Nat} {f C:Addr} {fd:FuncData} {ps:List Str} {sp:Sp} {dvs:List V} {ds:List Value} {E:XK} {x m:Str} {p pos apos:Pos} {e o:Expr} {es:List Expr} {ta:TE} {t:TA}
theorem run_fn {pins:List (Addr×Obj)} {σ:St} {H:Hp} {s:Shared} {Q:VK} {us:List Value} {vs:List V} (F:FnOk X.prog X.w X.K X.mg X.base CX k f fd ps sp) (hr:Room k X.A) (hb:Binds X.K fd ps ds) (hd:Vals dvs ds) (hx:qK2 CX X E)
  (I:Inv X pins σ H s) (r:Vals vs us) (h:sp (vs++dvs) H Q E):wpAny (model X.prog X.w) X.A (call (.ref f) us) (EP X pins σ Q) X.xe s:=by
 have r2:Vals (vs++dvs) (us++ds):=r.append hd
 have hl:(us++ds).length=ps.length:=by rw[<-r2.length];exact F.len _ _ _ _ h
 refine wpAny_call (codeAny_mono (F.run X.A X.stack s H ⟨us,[]⟩ (us++ds) (vs++dvs) Q E hr I.env0 (hb s us I.kIn hl) r2 h) fun r s' hq=> ?_)
 cases r with
 | error e=>exact hx pins σ H s e s' I hq
 | ok fl=>
  cases fl with
  | ret u=>exact I.after hq
  | next=>exact False.elim hq
  | brk=>exact False.elim hq
  | cont=>exact False.elim hq
end
section
variable {X:Cx} {CX:CXT} {k:Nat} {f C:Addr} {fd:FuncData} {ps ks:List Str} {sp:Sp} {E:XK} {x m:Str} {p pos apos kpos:Pos} {e o:Expr} {es:List Expr} {kws:List Keyword} {te ta:TE} {t tk:TA} {nm:Option Str}
variable {g:List Value->List Value->List Value} {gV:List V->List V->List V}
end
structure FnScope (N P:List Str) (sc:Scope):Prop where
 kind:sc.kind= .function
 co:sc.isCoroutine=false
 gen:sc.isGenerator=false
 nd:N.Nodup
 pre:N.take P.length=P
 par:∀x∈P,sc.names.lookup x=some .local\/sc.names.lookup x=some .cell
 nofree:∀y∈sc.names,y.2≠ .free
theorem kKk {kindOf:Str->Option NameKind} {x:Str}:∀ {binds:List (Str×Value)} {m:Str->Option Value},(∀v,(x,v)∉binds)->bindL kindOf binds m x=m x
 | [],_,_=>rfl
 | (n,v)::r,m,h=>by
  unfold bindL
  rw[kKk fun w hw=>h w (List.mem_cons_of_mem _ hw)]
  split
  ·have:x≠n:=by rintro rfl;exact h v List.mem_cons_self
   simp[this]
  ·rfl
theorem kKm {kindOf:Str->Option NameKind} {x:Str}:∀ {binds:List (Str×Value)} {m:Str->Option Value},(∀v,(x,v)∉binds)->bindC kindOf binds m x=m x
 | [],_,_=>rfl
 | (n,v)::r,m,h=>by
  unfold bindC
  rw[kKm fun w hw=>h w (List.mem_cons_of_mem _ hw)]
  split
  ·rfl
  ·have:x≠n:=by rintro rfl;exact h v List.mem_cons_self
   simp[this]
theorem kKl {kindOf:Str->Option NameKind} {x:Str} {v:Value}:∀ {P:List Str} {vs:List Value} {i:Nat} {m:Str->Option Value},P.Nodup->P[i]? =some x->vs[i]? =some v->kindOf x=some .local->
  bindL kindOf (P.zip vs) m x=some v
 | [],_,_,_,_,h,_,_=>by simp at h
 | _::_,[],_,_,_,_,h,_=>by simp at h
 | p::P,w::vs,0,m,nd,h1,h2,hk=>by
  simp at h1 h2;subst h1;subst h2
  show bindL kindOf ((p,w)::P.zip vs) m p=_
  unfold bindL
  rw[kKk fun v hv=>(List.nodup_cons.mp nd).1 (List.of_mem_zip hv).1,if_pos hk]
  simp
 | p::P,w::vs,i+1,m,nd,h1,h2,hk=>by
  show bindL kindOf ((p,w)::P.zip vs) m x=_
  unfold bindL
  exact kKl (i:=i) (List.nodup_cons.mp nd).2 (by simpa using h1) (by simpa using h2) hk
theorem kKn {kindOf:Str->Option NameKind} {x:Str} {v:Value}:∀ {P:List Str} {vs:List Value} {i:Nat} {m:Str->Option Value},P.Nodup->P[i]? =some x->vs[i]? =some v->kindOf x≠some .local->
  bindC kindOf (P.zip vs) m x=some v
 | [],_,_,_,_,h,_,_=>by simp at h
 | _::_,[],_,_,_,_,h,_=>by simp at h
 | p::P,w::vs,0,m,nd,h1,h2,hk=>by
  simp at h1 h2;subst h1;subst h2
  show bindC kindOf ((p,w)::P.zip vs) m p=_
  unfold bindC
  rw[kKm fun v hv=>(List.nodup_cons.mp nd).1 (List.of_mem_zip hv).1,if_neg hk]
  simp
 | p::P,w::vs,i+1,m,nd,h1,h2,hk=>by
  show bindC kindOf ((p,w)::P.zip vs) m x=_
  unfold bindC
  exact kKn (i:=i) (List.nodup_cons.mp nd).2 (by simpa using h1) (by simpa using h2) hk
def start (N:List Str) (vs:List V):St:=vs.map some++List.replicate (N.length-vs.length) none
noncomputable def cxOf (CX:CXT) (P:Program) (w:World) (K:PySem.W.Frag) (mg:Str->Option Value) (base:Heap) (N:List Str) (qual:Str) (scope:Scope) (f:Addr) (cd:Value) (A:Around) (outer:List Env) (s:Shared) (H:Hp) (E:XK):Cx where
 prog:=P
 w:=w
 K:=K
 mg:=mg
 base:=base
 A:=A.deeper (envOfC qual scope s.heap.objs.size f cd)
 N:=N
 s₀:=s
 H₀:=H
 env:=envOfC qual scope s.heap.objs.size f cd
 outer:=outer
 stack:=envOfC qual scope s.heap.objs.size f cd::outer
 ex:=[]
 calm:=true
 fn:=fun _=>true
 pn:=[]
 xe:=fun e s'=>wpAny (model P w) (A.deeper (envOfC qual scope s.heap.objs.size f cd)) (leaving (envOfC qual scope s.heap.objs.size f cd) e) (fun _ s''=>CX outer H s E e s'') (fun e' s''=>CX outer H s E e' s'') s'
theorem kU0 {sc:Scope} {n:Nat} {x:Str} (h:sc.names.lookup x=some .cell):∃c,(cellsFrom n sc.names []).lookup x=some c:=by
 have q:=PySem.W.cellsFrom_some sc.names n [] (.inl h)
 exact Option.isSome_iff_exists.mp q
theorem kYj {CX:CXT} {P:Program} {w:World} {K:PySem.W.Frag} {mg:Str->Option Value} {base:Heap} {N ps:List Str} {qual:Str} {scope:Scope} {f:Addr} {cd:Value} {A:Around} {outer:List Env} {s s1:Shared} {H:Hp} {E:XK} {us:List Value} {vs:List V}
  (S:FnScope N ps scope) (hd:A.handled=none/\A.guards=some []) (e0:Env0 P w K mg base A outer s H) (hl:vs.length=ps.length) (r:Vals vs us)
  (x:InCallC s s.heap.objs.size (bindL (envOfC qual scope s.heap.objs.size f cd).kindOf (ps.zip us) fun _=>none) (cellsFrom (s.heap.objs.size+1) scope.names []) (bindC (envOfC qual scope s.heap.objs.size f cd).kindOf (ps.zip us) fun _=>none) s1):
  Inv (cxOf CX P w K mg base N qual scope f cd A outer s H E) [] (start N vs) H s1:=by
 have hpl:ps.length<=N.length:=by have:=congrArg List.length S.pre;rw[List.length_take] at this;omega
 obtain⟨h1,tk,rfl,hk⟩:=x.done
 have noA:∀b:Addr,b∉(cxOf CX P w K mg base N qual scope f cd A outer s H E).ex:=fun b z=>absurd (show b∈([]:List Addr) from z) (by simp)
 refine⟨⟨e0.mod,S.kind,rfl,rfl,Nat.le_refl _,fun y z c h1 h2=> ?_,fun y hy=> ?_,fun y c _ h=> ?_,fun _=>hd.1,fun _=>hd.2,Around.frames_deeper e0.frames,.inr ⟨rfl,rfl⟩,fun b z=>absurd z (noA b),e0.bs,e0.bsz,fun b _ _=>noA b,fun b z=>absurd z (noA b),e0.funs,e0.frf⟩,
  rfl,e0.bare,Un.kept hk,⟨_,x.toInCall.ns,fun i y v h1 h2 h3=> ?_⟩,fun y c h=>⟨_,x.cell y c h⟩,e0.hok.fresh (Nat.le_refl _),fun y c h=> ?_,fun p hp=>absurd (show p∈([]:List (Addr×Obj)) from hp) (by simp),e0.hok.kept hk,?_⟩
 ·exact name_of_addr x.apart (PySem.mem_of_lookup h1) (PySem.mem_of_lookup h2)
 ·have hy:scope.names.lookup y=some .cell\/scope.names.lookup y=some .free:=hy
  rcases hy with hy | hy
  ·exact kU0 hy
  ·exact absurd rfl (S.nofree _ (PySem.mem_of_lookup hy))
 ·exact Nat.le_of_lt (x.above y c (PySem.mem_of_lookup h))
 ·have hi:i<vs.length:=by
   unfold start at h2
   by_cases hi:i<vs.length
   ·exact hi
   ·rw[List.getElem?_append_right (by simpa using hi)] at h2
    rw[List.getElem?_replicate] at h2
    split at h2<;>cases h2
  have ha:vs[i]? =some v:=by
   unfold start at h2
   rw[List.getElem?_append_left (by simpa using hi),List.getElem?_map] at h2
   cases e:vs[i]? with
   | none=>rw[e] at h2;cases h2
   | some a=>rw[e] at h2;cases h2;rfl
  obtain⟨u,hu,rv⟩:=r.get ha
  have hp:ps[i]? =some y:=by
   rw[<-S.pre,List.getElem?_take_of_lt (by omega)];exact h1
  have ndP:ps.Nodup:=by rw[<-S.pre];exact S.nd.sublist (List.take_sublist _ _)
  refine⟨u,rv,?_⟩
  rcases S.par y (List.mem_of_getElem? hp) with k | k
  ·exact .inl ⟨k,kKl ndP hp hu k⟩
  ·obtain⟨c,e⟩:=kU0 (n:=s.heap.objs.size+1) k
   refine .inr ⟨.inl k,c,e,?_⟩
   have q:=x.cell y c e
   rw[kKn ndP hp hu (by show scope.names.lookup y≠_;rw[k];decide)] at q
   exact q
 ·exact e0.hok.fresh (Nat.le_of_lt (x.above y c (PySem.mem_of_lookup h)))
 ·unfold start
  show _=N.length
  rw[List.length_append,List.length_map,List.length_replicate]
  omega
theorem fn_of {CX:CXT} {P:Program} {w:World} {K:PySem.W.Frag} {mg:Str->Option Value} {base:Heap} {k:Nat} {f:Addr} {name qual:Str} {params:Arguments} {body:List Stmt} {scope:Scope} {dV kV doc pm cdv ct oc:Value} {an od:Option Addr}
  {osl:Array (Option Value)} {N ps:List Str} {sp:Sp} (lk:K.lookup f=some ⟨oc,od,.func (PySem.W.fnOf name qual params body scope dV kV doc pm an cdv ct),osl⟩) (hcd:PySem.W.codeIn K cdv qual=true) (S:FnScope N ps scope)
  (len:∀vs H Q E,sp vs H Q E->vs.length=ps.length)
  (hbody:∀(A:Around) (outer:List Env) (s:Shared) (H:Hp) (vs:List V) (Q:VK) (E:XK),Room k (A.deeper (envOfC qual scope s.heap.objs.size f cdv))->sp vs H Q E->
   ∃t,PSs (cxOf CX P w K mg base N qual scope f cdv A outer s H E) body t/\t {nx:=fun _ H'=>Q .non H',rt:=Q} (start N vs) H):
  FnOk P w K mg base CX (k+1) f (PySem.W.fnOf name qual params body scope dV kV doc pm an cdv ct) ps sp:=by
 refine⟨len,fun A outer s H args us vs Q E hr e0 hb r hsp=> ?_⟩
 have hl:=len _ _ _ _ hsp
 have KX:K.In s.heap:=e0.mod.kin.keeps fun b o e=>(e0.bs b o e).1
 have lim:s.heap.NoLimit:=e0.mod.nolimit.keeps fun b o e=>(e0.bs b o e).1
 have hkind:∀y∈ps.zip us,scope.names.lookup y.1=some .local\/(scope.names.lookup y.1=some .cell/\((cellsFrom (s.heap.objs.size+1) scope.names []).lookup y.1).isSome=true):=fun ⟨n,v⟩ hy=>by
  rcases S.par n (List.of_mem_zip hy).1 with q | q
  ·exact .inl q
  ·exact .inr ⟨q,PySem.W.cellsFrom_some _ _ _ (.inl q)⟩
 refine codeAny_call_function hr.depth (KX _ _ lk) rfl S.co S.gen rfl (PySem.W.codeRec_of KX hcd) (hb _ _ _ _ ?_)
 refine wpAny_newFunctionEnv_cells S.kind hkind fun env he s1 x=> ?_
 subst he
 refine⟨lim.keeps x.toInCall.keep,codeAny_func ?_⟩
 obtain⟨t,ht,hq⟩:=hbody A outer s H vs Q E (hr.deeper _) hsp
 have I:Inv (cxOf CX P w K mg base N qual scope f cdv A outer s H E) [] (start N vs) H s1:=kYj S ⟨hr.hd,hr.gd⟩ e0 hl r x
 refine wpAny_mono (ht [] s1 (start N vs) H _ I hq) (fun fl s' hs=> ?_) fun e s' hs=>hs
 have fin:∀ {σ':St} {H':Hp} {v:V} {u:Value},Inv (cxOf CX P w K mg base N qual scope f cdv A outer s H E) [] σ' H' s'->RelV v u->Q v H'->CE outer P w H s Q u s':=
  fun {σ' H' v u} J rv q=>⟨v,H',J.os,J.bare,J.base,J.hok,rv,q⟩
 cases fl with
 | ret u=>
  obtain⟨v,σ',H',J,rv,q⟩:=hs
  exact fin J rv q
 | next=>
  obtain⟨σ',H',J,q⟩:=hs
  exact fin (v:=V.non) (u:=Value.none) J rfl q
 | brk=>
  obtain⟨_,_,_,q⟩:=hs
  exact False.elim q
 | cont=>
  obtain⟨_,_,_,q⟩:=hs
  exact False.elim q
section
variable {X:Cx} {x:Str} {p pos:Pos} {e:Expr} {es:List Expr} {t:TA} {id T:String} {r:List V->Hp->VK->Prop}
end
end L2
namespace HT
open PySem PyProof.Rows
theorem qJ3 (A:Around) (s:Shared) (a:Int) (t:Tok) (c:Int) (u:Tok):∃e,SeqAt.EqAt A s (.int a t) (.int c u) e/\(e=true↔a=c):=
 ⟨(a == c),SeqAt.EqAt.int_int a t c u,by simp⟩
section
open PySem.SeqAt
open PySem.AutoSeq1 (wpAny_loadPart')
open PySem.MeetsSeq PySem.MeetsSeq2 PySem.MeetsSeq3
end
section
variable {prog:Program} {w:World} {A:Around} {E:Value->Shared->Prop} {s:Shared}
theorem cat_tup {t b:Addr} {vs ws:List Value} {Q:Value->Shared->Prop} (ht:IsTup s.heap t vs.toArray) (hb:IsTup s.heap b ws.toArray) (hv:vs≠[])
  (h1:ws=[]->Q (.ref t) s) (h2:ws≠[]->Q (.ref s.heap.objs.size) {s with heap:=s.heap.push {cls:= .type "tuple",data:= .seq (vs++ws).toArray} })
  (hsz:vs.length+ws.length<=sizeLine):wpAny (model prog w) A (binaryOp .Add (.ref t) (.ref b)) Q E s:=by
 obtain⟨⟨cls,dd,data,sl⟩,ho,hc,n,hd⟩:=id ht
 obtain⟨⟨cls2,dd2,data2,sl2⟩,ho2,hc2,n2,hd2⟩:=id hb
 simp only at hc hd hc2 hd2
 subst hc hd hc2 hd2
 have e:vs.toArray++ws.toArray=(vs++ws).toArray:=by simp
 by_cases hw:ws=[]
 ·exact concat_meets ⟨_,ho,rfl⟩ ⟨_,ho2,rfl⟩ noFill_tuple_add seq_tuple_add PySem.F.slot_tuple_add PySem.F.entry_tuple_add (PySem.F.args_tuple_add_2 _ _)
   (tuple_addW1 t b vs.toArray ws.toArray n n2 dd dd2 sl sl2 (by simpa using hv) (by simp[hw])) ⟨ho,ho2,h1 hw⟩
 ·refine concat_meets ⟨_,ho,rfl⟩ ⟨_,ho2,rfl⟩ noFill_tuple_add seq_tuple_add PySem.F.slot_tuple_add PySem.F.entry_tuple_add (PySem.F.args_tuple_add_2 _ _)
   (tuple_addW2 t b vs.toArray ws.toArray n n2 dd dd2 sl sl2 (by simpa using hv) (by simpa using hw) (by rw[List.size_toArray,List.size_toArray];exact hsz)) ⟨ho,ho2,?_⟩
  rw[e]
  exact h2 hw
def sIx (n d:Nat):Option Int->Nat
 | none=>d
 | some v=>if v<0 then (v+(n:Int)).toNat else min v.toNat n
theorem sIx_le (n d:Nat) (hd:d<=n) (o:Option Int):sIx n d o<=n:=by
 cases o with
 | none=>exact hd
 | some v=>
  show (if v<0 then (v+(n:Int)).toNat else min v.toNat n)<=n
  by_cases hv:v<0
  ·rw[if_pos hv];omega
  ·rw[if_neg hv];exact Nat.min_le_right _ _
theorem kZb (v:Int) (n d:Nat):(if v<0 then max (v+(n:Int)) 0 else min v (n:Int))=((sIx n d (some v):Nat):Int):=by
 show (if v<0 then max (v+(n:Int)) 0 else min v (n:Int))=(((if v<0 then (v+(n:Int)).toNat else min v.toNat n):Nat):Int)
 by_cases hv:v<0
 ·simp only[if_pos hv];omega
 ·simp only[if_neg hv];omega
theorem kVw (lo hi:Option Int) (n:Nat):Builtin.Slice.sliceAdjust lo hi 1 (n:Int)=(((sIx n 0 lo:Nat):Int),((sIx n n hi:Nat):Int)):=by
 have h1:¬ ((1:Int)<0):=by omega
 unfold Builtin.Slice.sliceAdjust
 simp only[h1,if_false]
 refine Prod.ext ?_ ?_
 ·cases lo with
  | none=>rfl
  | some v=>exact kZb v n 0
 ·cases hi with
  | none=>rfl
  | some v=>exact kZb v n n
theorem kVb (i j:Nat):Builtin.Slice.slicePlaces (i:Int) (j:Int) 1=j-i:=by
 unfold Builtin.Slice.slicePlaces
 have h1:(1:Int)>0:=by omega
 simp only[h1,if_true,Int.ediv_one]
 split<;>omega
theorem jZj {v:Value} {o:Option Int} {Q:Option Int->Shared->Prop} (p:IsPart v o) (h:Q o s):wpAny (model prog w) A (Builtin.Slice.slicePartIndex v) Q E s:=by
 cases p with
 | none=>exact slicePart_none h
 | int i t=>exact slicePart_int h
theorem jUc {sl:Addr} {vl vu:Value} {lo hi:Option Int} {n:Nat} {Q:Int×Int×Nat->Shared->Prop} (hs:s.heap.IsSliceOf sl vl vu .none) (pl:IsPart vl lo) (pu:IsPart vu hi)
  (h:Q (((sIx n 0 lo:Nat):Int),1,sIx n n hi-sIx n 0 lo) s):wpAny (model prog w) A (Builtin.Slice.sliceApplied (.ref sl) (pure (n:Int))) Q E s:=by
 obtain⟨os,hos,hcs,hds⟩:=id hs
 unfold Builtin.Slice.sliceApplied Builtin.Slice.sliceFields
 refine wpAny_bind (wpAny_bind (wpAny_field hos hds (x:=vl) rfl (wpAny_bind (wpAny_field hos hds (x:=vu) rfl (wpAny_bind (wpAny_field hos hds (x:= .none) rfl (wpAny_pure ?_)))))))
 refine wpAny_bind (slicePart_none ?_)
 show wpAny _ _ (if ((1:Int) == 0)=true then _ else _) _ _ s
 rw[if_neg (by decide)]
 refine wpAny_bind (jZj pl (wpAny_bind (jZj pu (wpAny_bind (wpAny_pure ?_)))))
 show wpAny _ _ (match Builtin.Slice.sliceAdjust lo hi 1 (n:Int) with | (lo,hi)=>pure (lo,(1:Int),Builtin.Slice.slicePlaces lo hi 1)) _ _ s
 rw[kVw lo hi n]
 show wpAny _ _ (pure (((sIx n 0 lo:Nat):Int),(1:Int),Builtin.Slice.slicePlaces ((sIx n 0 lo:Nat):Int) ((sIx n n hi:Nat):Int) 1)) _ _ s
 rw[kVb]
 exact wpAny_pure h
theorem qJb (xs:Array Value) (i k:Nat):((List.range k).filterMap fun (m:Nat)=>xs[((i:Int)+(m:Int)*1).toNat]?).toArray=((xs.toList.drop i).take k).toArray:=by
 have e:(fun (m:Nat)=>xs[((i:Int)+(m:Int)*1).toNat]?)=fun m=>xs[i+m]? :=by
  funext m
  have:((i:Int)+(m:Int)*1).toNat=i+m:=by omega
  rw[this]
 rw[e]
 have:=pick_run xs i k
 rw[List.filterMap_map] at this
 have e2:((fun x=>xs[x]?)∘fun x=>i+x)=fun m=>xs[i+m]? :=rfl
 rw[e2] at this
 rw[this]
theorem getItem_tuple_cut {t sl:Addr} {items:Array Value} {vl vu:Value} {lo hi:Option Int} {Q:Value->Shared->Prop} (ht:IsTup s.heap t items) (hs:s.heap.IsSliceOf sl vl vu .none) (pl:IsPart vl lo) (pu:IsPart vu hi)
  (hw:¬ (sIx items.size 0 lo=0/\sIx items.size items.size hi=items.size))
  (h:Q (.ref s.heap.objs.size) {s with heap:=s.heap.push {cls:= .type "tuple",data:= .seq ((items.toList.drop (sIx items.size 0 lo)).take (sIx items.size items.size hi-sIx items.size 0 lo)).toArray} })
  (hsz:items.size<=sizeLine):wpAny (model prog w) A (getItem (.ref t) (.ref sl)) Q E s:=by
 have htake:sizeOk (.seq ((items.toList.drop (sIx items.size 0 lo)).take (sIx items.size items.size hi-sIx items.size 0 lo)).toArray):=by
  show ((items.toList.drop (sIx items.size 0 lo)).take (sIx items.size items.size hi-sIx items.size 0 lo)).toArray.size<=sizeLine
  rw[List.size_toArray,List.length_take,List.length_drop,Array.length_toList]
  omega
 have hj:sIx items.size items.size hi<=items.size:=sIx_le _ _ (Nat.le_refl _) hi
 obtain⟨os,hos,hcs,hds⟩:=id hs
 have hTs:s.TypeIs (.ref sl) "slice":=⟨os,hos,hcs⟩
 unfold getItem
 try with_reducible refine wpAny_holding ?_
 first | refine wpAny_bind (wpAny_pure ?_) | skip
 refine wpAny_bind (wpAny_sequenceKey ht.typeIs (by decide) ?_)
 refine wpAny_bind (wpAny_callSpecial?_slot (name:=Str.ofString "__getitem__") ht.typeIs PyProof.Rows.slot_tuple_getitem
  (wpAny_call_entry PyProof.Rows.slot_tuple_getitem ht.typeIs entry_tuple_getitem ?_ (args_tuple_getitem _ _)))
 show wpAny _ _ (Builtin.Tuple.tupleItemsOf (.ref t) >>= _) _ _ s
 refine wpAny_bind (tupleItemsOf_ ht ?_)
 refine wpAny_bind (wpAny_typeOf hTs ?_)
 rw[if_pos (by decide)]
 refine wpAny_bind (jUc hs pl pu ?_)
 have hno:¬ ((((sIx items.size 0 lo:Nat):Int) == 0&&(1:Int) == 1&&(sIx items.size items.size hi-sIx items.size 0 lo) == items.size)=true):=by
  intro q
  rw[Bool.and_eq_true,Bool.and_eq_true] at q
  have q1:((sIx items.size 0 lo:Nat):Int)=0:=eq_of_beq q.1.1
  have q2:sIx items.size items.size hi-sIx items.size 0 lo=items.size:=eq_of_beq q.2
  exact hw ⟨by omega,by omega⟩
 show wpAny _ _ (if (((sIx items.size 0 lo:Nat):Int) == 0&&(1:Int) == 1&&(sIx items.size items.size hi-sIx items.size 0 lo) == items.size)=true then _ else _) _ _ s
 rw[if_neg hno,qJb]
 first
  | exact wpAny_bind (m:=Builtin.Tuple.tupleExact _) (wpAny_newObj_type (wpAny_pure ⟨_,rfl,wpAny_pure h⟩) htake)
  | exact wpAny_bind (m:=Builtin.Tuple.tupleExact _) (wpAny_newObj_type (wpAny_bind (wpAny_pure (wpAny_pure ⟨_,rfl,wpAny_pure h⟩))) htake)
  | exact wpAny_bind (wpAny_bind (m:=Builtin.Tuple.tupleExact _) (wpAny_newObj_type (wpAny_pure (wpAny_pure ⟨_,rfl,wpAny_pure h⟩)) htake))
  | exact wpAny_bind (wpAny_bind (m:=Builtin.Tuple.tupleExact _) (wpAny_newObj_type (wpAny_pure ⟨_,rfl,wpAny_pure h⟩) htake))
end
end HT
namespace L2
open PySem PySem.Spec PyProof.Rows
abbrev TO:=St->Hp->(Option Int->Hp->Prop)->Prop
theorem jZn {ns:List Int}:∀ {us:List Value},Vals (ns.map V.int) us->IntsAre us ns:=by
 induction ns with
 | nil=>intro us r;rw[List.map_nil] at r;cases r;exact .nil
 | cons n ns ih=>
  intro us r
  rw[List.map_cons] at r
  cases r with
  | cons r1 r2=>
   obtain⟨t,e⟩:=r1
   subst e
   exact .cons n t (ih r2)
section
variable {X:Cx} {e:Expr} {te:TE} {lo hi:Option Expr} {tl th:TO} {pos p2:Pos}
noncomputable def SlR (X:Cx) (r:V->Option Int->Option Int->Hp->VK->Prop):Prop:=
 ∀(pins:List (Addr×Obj)) (s:Shared) (σ:St) (H:Hp) (x:V) (v vl vu:Value) (lo hi:Option Int) (sl:Addr) (Q:VK),Inv X pins σ H s->RelV x v->s.heap.IsSliceOf sl vl vu .none->IsPart vl lo->IsPart vu hi->r x lo hi H Q->
  ∃T id,typeLookup (.type T) "__getitem__"=pure (some (.builtin id))/\s.TypeIs v T/\wpAny (model X.prog X.w) X.A (getItem v (.ref sl)) (EP X pins σ Q) X.xe s
def cutV (xs:List V) (lo hi:Option Int):List V:=(xs.drop (HT.sIx xs.length 0 lo)).take (HT.sIx xs.length xs.length hi-HT.sIx xs.length 0 lo)
theorem jYv (xs:List V) (lo hi:Option Int):(cutV xs lo hi).length<=xs.length:=by
 unfold cutV
 rw[List.length_take,List.length_drop]
 omega
noncomputable def rSlT (K:PySem.W.Frag):V->Option Int->Option Int->Hp->VK->Prop:=fun x lo hi H Q=>∃a xs,x= .ref a/\SqT K H a xs/\
 ¬ (HT.sIx xs.length 0 lo=0/\HT.sIx xs.length xs.length hi=xs.length)/\∀p,H p=none->Q (.ref p) (upd H p (.tup (cutV xs lo hi)))
theorem sl_tup:SlR X (rSlT X.K):=by
 intro pins s σ H x v vl vu lo hi sl Q I rx hs pl pu h
 obtain⟨a,xs,rfl,hx,hw,q⟩:=h
 cases rx
 obtain⟨its,r,ht,hz⟩:=I.tuple hx
 have hlen:its.toArray.size=xs.length:=by rw[List.size_toArray];exact r.length.symm
 refine⟨"tuple",_,PyProof.Rows.slot_tuple_getitem.lookup,ht.typeIs,?_⟩
 refine HT.getItem_tuple_cut ht hs pl pu (by rw[hlen];exact hw) ?_ (by rw[hlen];exact hz)
 rw[hlen]
 refine⟨.ref s.heap.objs.size,_,I.laid (t':=s.toks) (o:= .tup (cutV xs lo hi)) (fun b ob q=>Heap.get?_push_of_some _ q) (Nat.le_refl _) ?_,rfl,q _ (I.hok.fresh (Nat.le_refl _))⟩
 exact⟨Nat.le_trans (jYv xs lo hi) hz,_,(r.drop (HT.sIx xs.length 0 lo)).take (HT.sIx xs.length xs.length hi-HT.sIx xs.length 0 lo),TupD.new _ _⟩
noncomputable def kZ8 (K:PySem.W.Frag):R2:=fun x y H Q=>∃a b xs ys,x= .ref a/\y= .ref b/\SqT K H a xs/\SqT K H b ys/\xs≠[]/\xs.length+ys.length<=sizeLine/\
 (ys=[]->Q (.ref a) H)/\(ys≠[]->∀p,H p=none->Q (.ref p) (upd H p (.tup (xs++ys))))
theorem Vals.nil_iff {xs:List V} {us:List Value} (r:Vals xs us):us=[]↔xs=[]:=by
 cases r with
 | nil=>simp
 | cons _ _=>simp
theorem qQs:OpR X (binaryOp .Add) (kZ8 X.K):=by
 intro pins s σ H x y v u Q I rx ry h
 obtain⟨a,b,xs,ys,rfl,rfl,ha,hb,hx,hz,q1,q2⟩:=h
 cases rx
 cases ry
 obtain⟨its,r1,p1,_⟩:=I.tuple ha
 obtain⟨its2,r2,p2,_⟩:=I.tuple hb
 refine HT.cat_tup p1 p2 (fun z=>hx (r1.nil_iff.mp z)) (fun z=>⟨.ref a,H,I,rfl,q1 (r2.nil_iff.mp z)⟩) (fun z=> ?_) (by rw[<-r1.length,<-r2.length];exact hz)
 refine⟨.ref s.heap.objs.size,_,I.laid (t':=s.toks) (o:= .tup (xs++ys)) (fun b ob q=>Heap.get?_push_of_some _ q) (Nat.le_refl _) ?_,rfl,q2 (fun w=>z (r2.nil_iff.mpr w)) _ (I.hok.fresh (Nat.le_refl _))⟩
 exact⟨by rw[List.length_append];exact hz,_,r1.append r2,TupD.new _ _⟩
end
def ixN (n:Nat) (i:Int):Option Nat:=if 0<=i then (if i<n then some i.toNat else none) else if -(n:Int)<=i then some (i+n).toNat else none
def atI {α:Type} (xs:List α) (i:Int):Option α:=(ixN xs.length i).bind fun j=>xs[j]?
theorem kYg {n:Nat} {i:Int} {j:Nat} (h:ixN n i=some j):seqIndex? i n=some j/\j<n/\ -(n:Int)<=i/\i<n:=by
 unfold ixN at h
 by_cases h0:0<=i
 ·rw[if_pos h0] at h
  by_cases h1:i<n
  ·rw[if_pos h1] at h
   have e:i.toNat=j:=Option.some.inj h
   exact⟨by rw[seqIndex_of h0 h1,e],by omega,by omega,h1⟩
  ·rw[if_neg h1] at h;cases h
 ·rw[if_neg h0] at h
  by_cases h1: -(n:Int)<=i
  ·rw[if_pos h1] at h
   have e:(i+n).toNat=j:=Option.some.inj h
   exact⟨by rw[seqIndex_neg (by omega) h1,e],by omega,h1,by omega⟩
  ·rw[if_neg h1] at h;cases h
theorem kZi {α:Type} {xs:List α} {i:Int} {v:α} (h:atI xs i=some v):∃j,seqIndex? i xs.length=some j/\xs[j]? =some v/\j<xs.length/\ -(xs.length:Int)<=i/\i<xs.length:=by
 unfold atI at h
 cases e:ixN xs.length i with
 | none=>rw[e] at h;cases h
 | some j=>
  rw[e] at h
  obtain⟨h1,h2,h3,h4⟩:=kYg e
  exact⟨j,h1,h,h2,h3,h4⟩
def qU5 (b:Expr):Prop:=∀o i,subscripted b false o i=operate [o,i] (getItem o i)
noncomputable def IxR (X:Cx) (r:R2):Prop:=
 ∀(value slice:Expr) (pins:List (Addr×Obj)) (s:Shared) (σ:St) (H:Hp) (x y:V) (v u:Value) (Q:VK),Inv X pins σ H s->RelV x v->RelV y u->r x y H Q->
  subscripted slice false v u=operate [v,u] (getItem v u)->wpAny (model X.prog X.w) X.A (subscriptTail value slice v u) (EP X pins σ Q) X.xe s
noncomputable def MtR (X:Cx) (id:String) (r:V->List V->Hp->VK->Prop):Prop:=
 ∀(pins:List (Addr×Obj)) (s:Shared) (σ:St) (H:Hp) (x:V) (xs:List V) (v:Value) (us:List Value) (Q:VK),Inv X pins σ H s->RelV x v->Vals xs us->r x xs H Q->
  wpAny (model X.prog X.w) X.A (call (.builtin id) (v::us)) (EP X pins σ Q) X.xe s
section
variable {X:Cx} {a b:Expr} {ta tb:TE} {pos:Pos}
theorem IxR.or {r r':R2} (h:IxR X r) (h':IxR X r'):IxR X (fun x y H Q=>r x y H Q\/r' x y H Q):=by
 intro value slice pins s σ H x y v u Q I rx ry q hs
 rcases q with q | q
 ·exact h value slice pins s σ H x y v u Q I rx ry q hs
 ·exact h' value slice pins s σ H x y v u Q I rx ry q hs
def rIxL (K:PySem.W.Frag):R2:=fun x y H Q=>∃p xs i v,x= .ref p/\y= .int i/\SqL K H p xs/\atI xs i=some v/\Q v H
def rIxT (K:PySem.W.Frag):R2:=fun x y H Q=>∃p xs i v,x= .ref p/\y= .int i/\SqT K H p xs/\atI xs i=some v/\Q v H
theorem ix_list:IxR X (rIxL X.K):=by
 intro value slice pins s σ H x y v u Q I rx ry h hs
 obtain⟨p,xs,i,z,rfl,rfl,hq,he,q⟩:=h
 cases rx
 obtain⟨t,rfl⟩:=ry
 obtain⟨its,r,pl,hz⟩:=I.list hq
 obtain⟨j,h1,h2,h3,h4,h5⟩:=kZi he
 obtain⟨w,ew,rw'⟩:=r.get h2
 have hl:=r.length
 have hn:=kJ3
 have fin:EP X pins σ Q w s:=⟨z,H,I,rw',q⟩
 by_cases h0:0<=i
 ·have hj:i.toNat=j:=by
   rw[seqIndex_of h0 h5] at h1
   exact Option.some.inj h1
  exact item_listR pl.isList h0 (by omega) (by rw[hj];simpa using ew) fin hs
 ·have hj:(i+(its.toArray.size:Int)).toNat=j:=by
   rw[seqIndex_neg (by omega) h4] at h1
   rw[List.size_toArray,<-hl]
   exact Option.some.inj h1
  exact subscriptTail_builtinR (x:=w) pl.isList.typeIs slot_list_getitem.lookup
   (wpAny_getItem_list_neg (Q:=fun r s'=>r=w/\EP X pins σ Q r s') pl.isList (by omega) (by rw[List.size_toArray]<;>omega) (by omega) (by rw[hj];simpa using ew) ⟨rfl,fin⟩) hs
theorem ix_tup:IxR X (rIxT X.K):=by
 intro value slice pins s σ H x y v u Q I rx ry h hs
 obtain⟨p,xs,i,z,rfl,rfl,hq,he,q⟩:=h
 cases rx
 obtain⟨t,rfl⟩:=ry
 obtain⟨its,r,pl,hz⟩:=I.tuple hq
 obtain⟨j,h1,h2,h3,h4,h5⟩:=kZi he
 obtain⟨w,ew,rw'⟩:=r.get h2
 have hl:=r.length
 have hn:=kJ3
 have fin:EP X pins σ Q w s:=⟨z,H,I,rw',q⟩
 exact subscriptTail_builtinR (x:=w) pl.typeIs slot_tuple_getitem.lookup
  (getItem_tuple (j:=j) (Q:=fun r s'=>r=w/\EP X pins σ Q r s') pl (by omega) (by omega) (by rw[List.size_toArray,<-hl];exact h1) (by simpa using ew) ⟨rfl,fin⟩) hs
theorem kVm (its:List Value) (n j:Nat) (u:Value):Obj.mapSeq (·.setIfInBounds j u) {cls:= .type "list",data:= .seq its.toArray n}={cls:= .type "list",data:= .seq (its.set j u).toArray n}:=by
 simp[Obj.mapSeq]
theorem Inv.lst {pins:List (Addr×Obj)} {σ:St} {H:Hp} {s:Shared} {p:Addr} {xs:List V} (I:Inv X pins σ H s) (h:H p=some (.lst xs)):
  ∃(its:List Value) (n:Nat),Vals xs its/\s.heap.get? p=some {cls:= .type "list",data:= .seq its.toArray n}/\xs.length<=sizeLine:=by
 obtain⟨z,its,n,r,e⟩:=I.hok p _ h
 exact⟨its,n,r,e,z⟩
theorem Inv.lstUpd {pins:List (Addr×Obj)} {σ:St} {H:Hp} {s:Shared} {p:Addr} {xs ys:List V} {its its':List Value} {n n':Nat} {f:Obj->Obj} (I:Inv X pins σ H s) (h:H p=some (.lst xs))
  (ho:s.heap.get? p=some {cls:= .type "list",data:= .seq its.toArray n}) (hf:f {cls:= .type "list",data:= .seq its.toArray n}={cls:= .type "list",data:= .seq its'.toArray n'}) (r:Vals ys its') (hz:ys.length<=sizeLine) (t:Nat):
  Inv X pins σ (upd H p (.lst ys)) {s with heap:=s.heap.update p f,toks:=t}:=by
 have e:(s.heap.update p f).get? p=some {cls:= .type "list",data:= .seq its'.toArray n'}:=by
  rw[Heap.get?_update_self f ho (by rw[hf]<;>rfl),hf]
 refine I.write (x:=p) (e:=p) (by rw[h];trivial) (.inl rfl) (fun b u hb q=>(Heap.get?_update_other _ _ (Ne.symm hb)).trans q) ⟨_,e⟩ ?_
 exact⟨hz,its',n',r,e⟩
def kZ7:V->V->V->Hp->(Hp->Prop)->Prop:=fun o i v H Q=>∃p xs k j,o= .ref p/\i= .int k/\H p=some (.lst xs)/\ixN xs.length k=some j/\Q (upd H p (.lst (xs.set j v)))
theorem kZv:PSet X kZ7:=by
 intro pins s σ H o i v ov iv u Q I ro ri rv h
 obtain⟨p,xs,k,j,rfl,rfl,hp,hj,q⟩:=h
 cases ro
 obtain⟨t,rfl⟩:=ri
 obtain⟨its,n,r,ho,hz⟩:=I.lst hp
 obtain⟨h1,h2,h3,h4⟩:=kYg hj
 have hl:=r.length
 have hn:=kJ3
 have I':Inv X pins σ (upd H p (.lst (xs.set j v))) {s with heap:=s.heap.update p (Obj.mapSeq (·.setIfInBounds j u))}:=
  I.lstUpd hp ho (kVm its n j u) (r.set rv j) (by rw[List.length_set];exact hz) s.toks
 by_cases h0:0<=k
 ·have hk:k.toNat=j:=by
   rw[seqIndex_of h0 h4] at h1
   exact Option.some.inj h1
  exact PySem.W.ki_setAt ho h0 (by omega) (by rw[List.size_toArray,<-hl];exact h4) (by rw[hk];exact⟨_,I',q⟩)
 ·have hk:(k+(its.toArray.size:Int)).toNat=j:=by
   rw[seqIndex_neg (by omega) h3] at h1
   rw[List.size_toArray,<-hl]
   exact Option.some.inj h1
  exact PySem.W.ki_setBack ho (by omega) (by rw[List.size_toArray,<-hl];exact h3) (by omega) (by rw[hk];exact⟨_,I',q⟩)
theorem kJw (lo hi:Option Int) (n:Nat):(sliceBounds lo hi none n).1=((HT.sIx n 0 lo:Nat):Int)/\(sliceBounds lo hi none n).2.1=((HT.sIx n n hi:Nat):Int)/\(sliceBounds lo hi none n).2.2=1:=by
 refine⟨?_,?_,rfl⟩
 ·cases lo with
  | none=>simp[sliceBounds,HT.sIx]
  | some i=>
   simp only[sliceBounds,HT.sIx,Option.getD_none,show (1:Int)>0 by decide,if_true]
   by_cases h:i<0
   ·simp only[h,if_true]<;>omega
   ·simp only[h,if_false]<;>omega
 ·cases hi with
  | none=>simp[sliceBounds,HT.sIx]
  | some i=>
   simp only[sliceBounds,HT.sIx,Option.getD_none,show (1:Int)>0 by decide,if_true]
   by_cases h:i<0
   ·simp only[h,if_true]<;>omega
   ·simp only[h,if_false]<;>omega
theorem jZ4 (its:List Value) (lo hi:Option Int):slicePick its.toArray lo hi none=((its.drop (HT.sIx its.length 0 lo)).take (HT.sIx its.length its.length hi-HT.sIx its.length 0 lo)).toArray:=by
 obtain⟨h1,h2,h3⟩:=kJw lo hi its.toArray.size
 unfold slicePick
 rw[h1,h2,h3]
 simp only[sliceRange_one,pick_run,List.size_toArray]<;>rfl
def rSlL (K:PySem.W.Frag):V->Option Int->Option Int->Hp->VK->Prop:=fun x lo hi H Q=>∃a xs,x= .ref a/\SqL K H a xs/\∀p,H p=none->Q (.ref p) (upd H p (.lst (cutV xs lo hi)))
theorem qQe:SlR X (rSlL X.K):=by
 intro pins s σ H x v vl vu lo hi sl Q I rx hs pl pu h
 obtain⟨a,xs,rfl,hx,q⟩:=h
 cases rx
 obtain⟨its,r,ht,hz⟩:=I.list hx
 have hlen:=r.length
 refine⟨"list",_,slot_list_getitem.lookup,ht.isList.typeIs,?_⟩
 refine wpAny_getItem_list_slice ht.isList hs pl pu .none (by simp) ?_ (by rw[List.size_toArray]<;>omega)
 rw[jZ4,<-hlen]
 refine⟨.ref s.heap.objs.size,_,I.laid (t':=s.toks) (o:= .lst (cutV xs lo hi)) (fun b ob q=>Heap.get?_push_of_some _ q) (Nat.le_refl _) ?_,rfl,q _ (I.hok.fresh (Nat.le_refl _))⟩
 exact⟨Nat.le_trans (jYv xs lo hi) hz,_,0,(r.drop (HT.sIx xs.length 0 lo)).take (HT.sIx xs.length xs.length hi-HT.sIx xs.length 0 lo),Heap.get?_push_size _ rfl⟩
def jZc:V->Bool
 | .non=>true
 | .bl _=>true
 | .int _=>true
 | .str _=>true
 | _=>false
noncomputable def eqV:V->V->Bool
 | .non,.non=>true
 | .bl a,.bl b=>a == b
 | .bl a,.int b=>(if a then 1 else 0) == b
 | .int a,.bl b=>a == (if b then 1 else 0)
 | .int a,.int b=>a == b
 | .str a,.str b=>a == b
 | _,_=>false
theorem eqAt_V {A:Around} {s:Shared} {y x:V} {u v:Value} (ry:RelV y u) (rx:RelV x v) (fy:jZc y=true) (fx:jZc x=true):SeqAt.EqAt A s u v (eqV y x):=by
 cases y with
 | non=>
  cases ry
  cases x with
  | non=>cases rx;exact SeqAt.EqAt.same _
  | bl b=>cases rx;exact SeqAt.EqAt.none_bool b
  | int b=>obtain⟨t,rfl⟩:=rx;exact SeqAt.EqAt.none_int b t
  | str b=>obtain⟨t,rfl⟩:=rx;exact SeqAt.EqAt.none_str b t
  | _=>exact absurd (show false=true from fx) Bool.false_ne_true
 | bl a=>
  cases ry
  cases x with
  | non=>cases rx;exact SeqAt.EqAt.bool_none a
  | bl b=>cases rx;exact SeqAt.EqAt.bool_bool a b
  | int b=>obtain⟨t,rfl⟩:=rx;exact SeqAt.EqAt.bool_int a b t
  | str b=>obtain⟨t,rfl⟩:=rx;exact SeqAt.EqAt.bool_str a b t
  | _=>exact absurd (show false=true from fx) Bool.false_ne_true
 | int a=>
  obtain⟨t',rfl⟩:=ry
  cases x with
  | non=>cases rx;exact SeqAt.EqAt.int_none a t'
  | bl b=>cases rx;exact SeqAt.EqAt.int_bool a t' b
  | int b=>obtain⟨t,rfl⟩:=rx;exact SeqAt.EqAt.int_int a t' b t
  | str b=>obtain⟨t,rfl⟩:=rx;exact SeqAt.EqAt.int_str a t' b t
  | _=>exact absurd (show false=true from fx) Bool.false_ne_true
 | str a=>
  obtain⟨t',rfl⟩:=ry
  cases x with
  | non=>cases rx;exact SeqAt.EqAt.str_none a t'
  | bl b=>cases rx;exact SeqAt.EqAt.str_bool a t' b
  | int b=>obtain⟨t,rfl⟩:=rx;exact SeqAt.EqAt.str_int a t' b t
  | str b=>obtain⟨t,rfl⟩:=rx;exact SeqAt.EqAt.str_str a t' b t
  | _=>exact absurd (show false=true from fx) Bool.false_ne_true
 | _=>exact absurd (show false=true from fy) Bool.false_ne_true
def eqU (x:V) (u:Value):Bool:=match u with
 | .none=>eqV .non x
 | .bool b=>eqV (.bl b) x
 | .int i _=>eqV (.int i) x
 | .str z _=>eqV (.str z) x
 | _=>false
theorem qKz {x y:V} {u:Value} (r:RelV y u) (f:jZc y=true):eqU x u=eqV y x:=by
 cases y with
 | non=>cases r;rfl
 | bl b=>cases r;rfl
 | int i=>obtain⟨t,rfl⟩:=r;rfl
 | str z=>obtain⟨t,rfl⟩:=r;rfl
 | _=>exact absurd (show false=true from f) Bool.false_ne_true
theorem jYy {x:V}:∀ {xs:List V} {us:List Value},Vals xs us->xs.all jZc=true->us.any (eqU x)=xs.any fun y=>eqV y x
 | _,_,.nil,_=>rfl
 | y::xs,u::us,.cons r t,f=>by
  rw[List.all_cons,Bool.and_eq_true] at f
  rw[List.any_cons,List.any_cons,qKz r f.1,jYy t f.2]
theorem jVr {A:Around} {s:Shared} {x:V} {v:Value} (rx:RelV x v) (fx:jZc x=true):∀ {xs:List V} {us:List Value},Vals xs us->xs.all jZc=true->∀u∈us,SeqAt.EqAt A s u v (eqU x u)
 | _,_,.nil,_=>fun u hu=>by cases hu
 | y::xs,u::us,.cons r t,f=>fun u' hu=>by
  rw[List.all_cons,Bool.and_eq_true] at f
  rcases (List.mem_cons.mp hu) with rfl | hu
  ·rw[qKz r f.1];exact eqAt_V r rx f.1 fx
  ·exact jVr rx fx t f.2 u' hu
def inV (x:V) (xs:List V):Bool:=xs.any fun y=>eqV y x
def rIn (K:PySem.W.Frag) (neg:Bool):R2:=fun x y H Q=>∃p xs,y= .ref p/\(SqL K H p xs\/SqT K H p xs)/\jZc x=true/\xs.all jZc=true/\Q (.bl (if neg then !inV x xs else inV x xs)) H
theorem kXu:OpR X (compareOp .In) (rIn X.K false):=by
 intro pins s σ H x y v u Q I rx ry h
 obtain⟨p,xs,rfl,hq,fx,fs,q⟩:=h
 cases ry
 rcases hq with hq | hq
 ·obtain⟨its,r,pl,hz⟩:=I.list hq
  refine SeqAt.in_listAt (eqU x) pl.isList (fun w hw=>jVr rx fx r fs w (by simpa using hw)) ⟨.bl _,H,I,rfl,?_⟩
  rw[show its.toArray.any (eqU x)=its.any (eqU x) by simp,jYy r fs]
  exact q
 ·obtain⟨its,r,pl,hz⟩:=I.tuple hq
  refine SeqAt.in_tupleAt (eqU x) pl (fun w hw=>jVr rx fx r fs w (by simpa using hw)) ⟨.bl _,H,I,rfl,?_⟩
  rw[show its.toArray.any (eqU x)=its.any (eqU x) by simp,jYy r fs]
  exact q
theorem kJ2:OpR X (compareOp .NotIn) (rIn X.K true):=by
 intro pins s σ H x y v u Q I rx ry h
 obtain⟨p,xs,rfl,hq,fx,fs,q⟩:=h
 cases ry
 rcases hq with hq | hq
 ·obtain⟨its,r,pl,hz⟩:=I.list hq
  refine SeqAt.notIn_listAt (eqU x) pl.isList (fun w hw=>jVr rx fx r fs w (by simpa using hw)) ⟨.bl _,H,I,rfl,?_⟩
  rw[show its.toArray.any (eqU x)=its.any (eqU x) by simp,jYy r fs]
  exact q
 ·obtain⟨its,r,pl,hz⟩:=I.tuple hq
  refine SeqAt.notIn_tupleAt (eqU x) pl (fun w hw=>jVr rx fx r fs w (by simpa using hw)) ⟨.bl _,H,I,rfl,?_⟩
  rw[show its.toArray.any (eqU x)=its.any (eqU x) by simp,jYy r fs]
  exact q
theorem kKj:kKy X (.builtin "len") (fun xs H Q=>∃p ys,xs=[.ref p]/\(SqL X.K H p ys\/SqT X.K H p ys)/\Q (.int ys.length) H):=by
 intro pins s σ H xs us Q I r h
 obtain⟨p,ys,rfl,hq,q⟩:=h
 obtain⟨u,rfl,rx⟩:=kVz r
 cases rx
 have hn:=kJ3
 rcases hq with hq | hq
 ·obtain⟨its,r',pl,hz⟩:=I.list hq
  have hlen:=r'.length
  exact Calls.call_len_list pl.isList (by simp only[List.size_toArray]<;>omega) ⟨.int ys.length,H,I.tok _,⟨s.toks+1,by rw[List.size_toArray,hlen]⟩,q⟩
 ·obtain⟨its,r',pl,hz⟩:=I.tuple hq
  have hlen:=r'.length
  exact len_tuple pl (by simp only[List.size_toArray]<;>omega) ⟨.int ys.length,H,I.tok _,⟨s.toks+1,by rw[List.size_toArray,hlen]⟩,q⟩
theorem kKi:kKy X (.type "list") (fun xs H Q=>∃p ys,xs=[.ref p]/\(SqL X.K H p ys\/SqT X.K H p ys)/\∀l,H l=none->Q (.ref l) (upd H l (.lst ys))):=by
 intro pins s σ H xs us Q I r h
 obtain⟨p,ys,rfl,hq,q⟩:=h
 obtain⟨u,rfl,rx⟩:=kVz r
 cases rx
 have fin:∀(its:List Value),Vals ys its->ys.length<=sizeLine->∀(h':Heap) (c':Nat),(∀b o',s.heap.get? b=some o'->h'.get? b=some o')->
   h'.get? s.heap.objs.size=some {cls:= .type "list",dict:=none,data:= .seq its.toArray c',slots:= #[]}->EP X pins σ Q (.ref s.heap.objs.size) {s with heap:=h'}:=fun its r' hz h' c' kp e=>
  ⟨.ref s.heap.objs.size,_,I.laid (t':=s.toks) kp (Nat.le_refl _) (show ObjOk X.prog X.w _ h' _ (.lst ys) from⟨hz,its,c',r',e⟩),rfl,q _ (I.hok.fresh (Nat.le_refl _))⟩
 rcases hq with hq | hq
 ·obtain⟨its,r',pl,hz⟩:=I.list hq
  have hlen:=r'.length
  obtain⟨o,ho,hc,n,hd⟩:=pl.isList
  exact call_list_seq p (.inl rfl) ho hc hd (fun h' c' kp e=>fin its r' hz h' c' kp e) (by simp only[List.size_toArray]<;>omega)
 ·obtain⟨its,r',pl,hz⟩:=I.tuple hq
  have hlen:=r'.length
  obtain⟨o,ho,hc,n,hd⟩:=pl
  exact call_list_seq p (.inr rfl) ho hc hd (fun h' c' kp e=>fin its r' hz h' c' kp e) (by simp only[List.size_toArray]<;>omega)
theorem kJp:kKy X (.type "tuple") (fun xs H Q=>∃p ys,xs=[.ref p]/\((SqL X.K H p ys/\∀l,H l=none->Q (.ref l) (upd H l (.tup ys)))\/(SqT X.K H p ys/\Q (.ref p) H))):=by
 intro pins s σ H xs us Q I r h
 obtain⟨p,ys,rfl,h⟩:=h
 obtain⟨u,rfl,rx⟩:=kVz r
 cases rx
 rcases h with ⟨hq,q⟩ | ⟨hq,q⟩
 ·obtain⟨its,r',pl,hz⟩:=I.list hq
  have hlen:=r'.length
  refine call_tuple_list pl.isList (fun h' kp=> ?_) (by simp only[List.size_toArray]<;>omega)
  have I1:Inv X pins σ H {s with heap:=h'}:=I.kept (t':=s.toks) kp
  have I2:Inv X pins σ (upd H h'.objs.size (.tup ys)) {s with heap:=h'.push {cls:= .type "tuple",data:= .seq its.toArray} }:=
   I1.laid (t':=s.toks) (fun b o e=>Heap.get?_push_of_some _ e) (Nat.le_refl _) (show ObjOk X.prog X.w _ _ _ (.tup ys) from⟨hz,its,r',TupD.new _ _⟩)
  exact⟨.ref h'.objs.size,_,I2,rfl,q _ (I1.hok.fresh (Nat.le_refl _))⟩
 ·obtain⟨its,r',pl,hz⟩:=I.tuple hq
  exact call_tuple_same pl ⟨.ref p,H,I,rfl,q⟩
noncomputable def tyV (K:PySem.W.Frag) (T:String) (x:V) (H:Hp):Prop:=match x with
 | .str _=>T="str"
 | .int _=>T="int"
 | .ref p=>(T="list"/\∃xs,SqL K H p xs)\/(T="tuple"/\∃o,K.lookup p=some o/\o.cls= .type "tuple"/\o.dict=none)\/
   (T="dict"/\((∃kvs,H p=some (.dK kvs))\/∃kvs,H p=some (.dT kvs)))\/(T="set"/\∃S n,H p=some (.set S n))
 | _=>False
theorem tyV_is {pins:List (Addr×Obj)} {σ:St} {H:Hp} {s:Shared} {T:String} {x:V} {v:Value} (I:Inv X pins σ H s) (r:RelV x v) (ty:tyV X.K T x H):
  s.TypeIs v T/\∀a,v= .ref a->∃ob,s.heap.get? a=some ob/\ob.dict=none:=by
 cases x with
 | str z=>
  obtain⟨t,rfl⟩:=r
  cases (show T="str" from ty)
  exact⟨typeIs_str s z t,fun _ e=>nomatch e⟩
 | int i=>
  obtain⟨t,rfl⟩:=r
  cases (show T="int" from ty)
  exact⟨typeIs_int s i t,fun _ e=>nomatch e⟩
 | ref p=>
  cases r
  rcases ty with ⟨rfl,xs,hq⟩ | ⟨rfl,o,hk,hc,hd⟩ | ⟨rfl,hk⟩ | ⟨rfl,S,n,hk⟩
  ·obtain⟨its,_,pl,_⟩:=I.list hq
   refine⟨pl.isList.typeIs,fun a e=> ?_⟩
   cases e
   obtain⟨o,n,e,c,hd,_⟩:=pl
   exact⟨o,e,hd⟩
  ·refine⟨⟨o,I.kIn p o hk,hc⟩,fun a e=> ?_⟩
   cases e
   exact⟨o,I.kIn _ o hk,hd⟩
  ·have z:∃o,s.heap.get? p=some o/\o.ExactDict:=by
    rcases hk with ⟨kvs,hk⟩ | ⟨kvs,hk⟩
    ·obtain⟨_,_,_,_,o,_,_,e,ex,_⟩:=I.hok p _ hk
     exact⟨o,e,ex⟩
    ·obtain⟨_,_,_,_,o,_,_,e,ex,_⟩:=I.hok p _ hk
     exact⟨o,e,ex⟩
   obtain⟨o,e,ex⟩:=z
   refine⟨⟨o,e,ex.1⟩,fun a e2=> ?_⟩
   cases e2
   exact⟨o,e,ex.2.1⟩
  ·obtain⟨o,_,_,_,e,ex,_⟩:=I.hok p _ hk
   refine⟨⟨o,e,ex.1⟩,fun a e2=> ?_⟩
   cases e2
   exact⟨o,e,ex.2.1⟩
 | _=>exact False.elim ty
variable {o e:Expr} {es:List Expr} {to:TE} {t:TA} {name:Str} {apos cpos:Pos} {T id:String} {r:V->List V->Hp->VK->Prop}
end
noncomputable def MtM (X:Cx) (id:String) (r:V->List V->Hp->VK->Prop):Prop:=
 ∀(pins:List (Addr×Obj)) (s:Shared) (σ:St) (H:Hp) (x:V) (xs:List V) (v:Value) (us:List Value) (Q:VK),Inv X pins σ H s->RelV x v->Vals xs us->r x xs H Q->
  wpAny (model X.prog X.w) X.A (call (.builtin id) (v::us)) (EP X pins σ Q) X.xe s
theorem Vals.one {x:V} {us:List Value} (h:Vals [x] us):∃u,us=[u]/\RelV x u:=by
 cases h with | cons r t=>(cases t;exact⟨_,rfl,r⟩)
theorem Vals.two {x y:V} {us:List Value} (h:Vals [x,y] us):∃u v,us=[u,v]/\RelV x u/\RelV y v:=by
 cases h with | cons r t=>(cases t with | cons q t=>(cases t;exact⟨_,_,rfl,r,q⟩))
theorem Vals.rep {xs:List V} {us:List Value} (h:Vals xs us):∀k:Nat,Vals (List.replicate k xs).flatten (List.replicate k us).flatten
 | 0=> .nil
 | k+1=>by
  rw[List.replicate_succ,List.replicate_succ,List.flatten_cons,List.flatten_cons]
  exact Vals.append h (Vals.rep h k)
theorem kKa (its:List Value):∀(k:Nat) (acc:List Value),
  List.foldl (fun x1 x2=>x1++x2) acc.toArray (List.replicate k its.toArray)=(acc++(List.replicate k its).flatten).toArray
 | 0,acc=>by simp
 | k+1,acc=>by
  have e:acc.toArray++its.toArray=(acc++its).toArray:=by simp
  have e2:(acc++its)++(List.replicate k its).flatten=acc++(List.replicate (k+1) its).flatten:=by
   rw[List.replicate_succ,List.flatten_cons,List.append_assoc]
  rw[<-e2,<-kKa its k (acc++its),<-e,List.replicate_succ,List.foldl_cons]
section
variable {X:Cx} {pins:List (Addr×Obj)} {σ:St} {H:Hp} {s:Shared} {l b:Addr} {xs ys zs:List V}
theorem Inv.lset {its its':List Value} {n:Nat} {f:Array Value->Array Value} {t':Nat} (I:Inv X pins σ H s) (hH:H l=some (.lst xs))
  (e:s.heap.get? l=some {cls:= .type "list",data:= .seq its.toArray n}) (hf:f its.toArray=its'.toArray) (hv:Vals ys its') (hz:ys.length<=sizeLine):
  Inv X pins σ (upd H l (.lst ys)) {s with heap:=s.heap.update l (Obj.mapSeq f),toks:=t'}:=by
 have q:=PySem.IsL.update e f
 rw[hf] at q
 refine I.write (x:=l) (e:=l) (by rw[hH];exact trivial) (.inl rfl) (fun b' u hb hu=>(Heap.get?_update_other s.heap (Obj.mapSeq f) (Ne.symm hb)).trans hu) ⟨_,q⟩ ?_
 exact⟨hz,its',_,hv,q⟩
theorem Inv.lnew {its:List Value} {t':Nat} (I:Inv X pins σ H s) (hv:Vals ys its) (hz:ys.length<=sizeLine):
  Inv X pins σ (upd H s.heap.objs.size (.lst ys)) {s with heap:=s.heap.push {cls:= .type "list",data:= .seq its.toArray},toks:=t'}:=
 I.laid (fun _ _ q=>Heap.get?_push_of_some _ q) (Nat.le_refl _) ⟨hz,its,0,hv,Heap.get?_push_size _ rfl⟩
theorem Inv.fresh (I:Inv X pins σ H s):H s.heap.objs.size=none:=I.hok.fresh (Nat.le_refl _)
theorem Inv.lstM (I:Inv X pins σ H s) (hH:H l=some (.lst xs)):xs.length<=sizeLine/\∃(its:List Value) (n:Nat),Vals xs its/\xs.length=its.length/\s.heap.get? l=some {cls:= .type "list",data:= .seq its.toArray n}:=by
 obtain⟨z,its,n,r,e⟩:=I.hok l _ hH
 exact⟨z,its,n,r,r.length,e⟩
theorem qJj {n:Nat} (h:n<=sizeLine):Builtin.List.listTooLong n=false:=by
 unfold Builtin.List.listTooLong
 exact decide_eq_false (by omega)
end
section
variable {X:Cx}
def jK4:V->List V->Hp->VK->Prop:=fun x vs H Q=>∃l xs y,x= .ref l/\vs=[y]/\H l=some (.lst xs)/\xs.length<sizeLine/\Q .non (upd H l (.lst (xs++[y])))
theorem kX5:MtM X "list.append" jK4:=by
 intro pins s σ H x vs v us Q I rx rv h
 obtain⟨l,xs,y,rfl,rfl,hH,hz,q⟩:=h
 cases rx
 obtain⟨u,rfl,ru⟩:=rv.one
 obtain⟨z,its,n,r,hl,e⟩:=I.lstM hH
 refine call_meets F.slot_list_append ⟨_,e,rfl⟩ F.entry_list_append (F.args_list_append_2 _ _) (PySem.list_append l its.toArray n u (by rw[List.size_toArray];omega)) ⟨e,?_⟩
 refine⟨.non,_,I.lset (its':=its++[u]) hH e (by simp) (r.append (.cons ru .nil)) ?_,rfl,q⟩
 rw[List.length_append,List.length_singleton]
 omega
noncomputable def rCat:R2:=fun x y H Q=>∃l b xs zs,x= .ref l/\y= .ref b/\H l=some (.lst xs)/\H b=some (.lst zs)/\xs.length+zs.length<=sizeLine/\∀p,H p=none->Q (.ref p) (upd H p (.lst (xs++zs)))
theorem op_cat:OpR X (binaryOp .Add) rCat:=by
 intro pins s σ H x y v u Q I rx ry h
 obtain⟨l,b,xs,zs,rfl,rfl,hH,hB,hz,q⟩:=h
 cases rx
 cases ry
 obtain⟨z,its,n,r,hl,e⟩:=I.lstM hH
 obtain⟨z2,its2,n2,r2,hl2,e2⟩:=I.lstM hB
 refine PySem.P.add_list e e2 ?_ (by rw[List.size_toArray,List.size_toArray];omega)
 have ea:its.toArray++its2.toArray=(its++its2).toArray:=by simp
 rw[ea]
 exact⟨.ref _,_,I.lnew (t':=s.toks) (r.append r2) (by rw[List.length_append];omega),rfl,q _ I.fresh⟩
noncomputable def rRep:R2:=fun x y H Q=>∃l k xs,x= .ref l/\y= .int k/\H l=some (.lst xs)/\ -(2^63)<=k/\k<2^63/\xs.length*k.toNat<=sizeLine/\
 ∀p,H p=none->Q (.ref p) (upd H p (.lst (List.replicate k.toNat xs).flatten))
theorem qQ0 {α:Type} (xs:List α) (k:Nat):(List.replicate k xs).flatten.length=k*xs.length:=by
 induction k with
 | zero=>simp
 | succ k ih=>rw[List.replicate_succ,List.flatten_cons,List.length_append,ih,Nat.succ_mul,Nat.add_comm]
theorem op_rep:OpR X (binaryOp .Mult) rRep:=by
 intro pins s σ H x y v u Q I rx ry h
 obtain⟨l,k,xs,rfl,rfl,hH,h1,h2,hz,q⟩:=h
 cases rx
 obtain⟨t,rfl⟩:=ry
 obtain⟨z,its,n,r,hl,e⟩:=I.lstM hH
 have hlen:its.toArray.size*k.toNat<=sizeLine:=by rw[List.size_toArray,<-hl];exact hz
 have hcap:¬ its.toArray.size*k.toNat>(2^63-1) / 8:=by
  have:(sizeLine:Nat)<=(2^63-1) / 8:=by decide
  omega
 have hfit:¬ (!Builtin.List.listFitsIndex k)=true:=by
  rw[fitsIndex_both h1 h2]
  exact Bool.false_ne_true
 have hlong:¬ Builtin.List.listTooLong (its.toArray.size*k.toNat)=true:=by
  rw[qJj hlen]
  exact Bool.false_ne_true
 have hnew:List.foldl (fun x1 x2=>x1++x2) #[] (List.replicate (if its.toArray.isEmpty=true then 0 else k.toNat) its.toArray)=(List.replicate k.toNat its).flatten.toArray:=by
  have f0:∀m:Nat,List.foldl (fun x1 x2=>x1++x2) #[] (List.replicate m its.toArray)=(List.replicate m its).flatten.toArray:=fun m=>by
   have:=kKa its m []
   rw[List.nil_append] at this
   exact this
  rw[f0]
  cases its with
  | nil=>simp
  | cons a r'=>rw[if_neg (by simp)]
 refine wpAny_binaryOp_repeat_ref (T:="list") (U:="int") (by decide) ⟨_,e,rfl⟩ (fun s'=>typeIs_int s' k t) noFill_list_mul F.fills_int_mul F.slot_int_rmul repeat_list F.slot_int_index.lookup
  (call_meets F.slot_int_rmul (typeIs_int s k t) F.entry_int_rmul (F.args_int_rmul_2 _ _) (int___rmul___int_list k t l its.toArray n)
   ⟨e,rfl,⟨_,e,rfl⟩,call_meets F.slot_list_mul ⟨_,e,rfl⟩ F.entry_list_mul (F.args_list_mul_2 _ _) (AutoListH.list___mul___list_int_3 l its.toArray n k t hfit hcap hlong) ⟨e,?_⟩⟩)
 rw[hnew]
 exact⟨.ref _,_,I.lnew (t':=s.toks) (r.rep k.toNat) (by rw[qQ0,Nat.mul_comm];exact hz),rfl,q _ I.fresh⟩
end
section
variable {prog:Program} {w:World} {A:Around} {E:Value->Shared->Prop} {s:Shared}
end
section
variable {X:Cx}
end
section
variable {κ:Type} [DecidableEq κ]
def valV (kvs:List (κ×V)) (k:κ):Option V:=(kvs.find? fun kv=>decide (kv.1=k)).map (·.2)
def putK (kvs:List (κ×V)) (k:κ) (v:V):List (κ×V):=
 if (kvs.any fun kv=>decide (kv.1=k))=true then kvs.map (fun kv=>if kv.1=k then (kv.1,v) else kv) else kvs++[(k,v)]
theorem jXp {p:κ×V} {r:List (κ×V)} {k:κ} (e:p.1=k):valV (p::r) k=some p.2:=by simp[valV,List.find?_cons,e]
theorem jXq {p:κ×V} {r:List (κ×V)} {k:κ} (e:¬ p.1=k):valV (p::r) k=valV r k:=by simp[valV,List.find?_cons,e]
theorem kQu (k:κ):∀kvs:List (κ×V),(kvs.any fun kv=>decide (kv.1=k))=(valV kvs k).isSome
 | []=>rfl
 | p::r=>by
  rw[List.any_cons]
  by_cases e:p.1=k
  ·simp only[jXp e,decide_eq_true e,Bool.true_or,Option.isSome_some]
  ·rw[jXq e,decide_eq_false e,Bool.false_or];exact kQu k r
theorem jYm (kvs:List (κ×V)) (k:κ) (v:V):(putK kvs k v).length<=kvs.length+1:=by
 unfold putK
 split
 ·rw[List.length_map];omega
 ·rw[List.length_append,List.length_cons,List.length_nil];omega
theorem RelO.isSome_eq {o:Option V} {u:Option Value} (r:RelO o u):o.isSome=u.isSome:=by
 cases o with
 | none=>cases u with
  | none=>rfl
  | some _=>exact (show False from r).elim
 | some _=>cases u with
  | none=>exact (show False from r).elim
  | some _=>rfl
theorem KV.val {kvs:List (κ×V)} {vs:List (κ×Value)} (r:KV kvs vs) (k:κ):RelO (valV kvs k) (valueAt vs k):=by
 unfold KV at r
 induction r with
 | nil=>exact True.intro
 | @cons p q ps qs h t ih=>
  obtain⟨h1,h2⟩:=h
  by_cases e:p.1=k
  ·have e':q.1=k:=h1.symm.trans e
   have b:valueAt (q::qs) k=some q.2:=by simp[valueAt,List.find?_cons,e']
   rw[jXp e,b];exact h2
  ·have e':¬ q.1=k:=fun z=>e (h1.trans z)
   have b:valueAt (q::qs) k=valueAt qs k:=by simp[valueAt,List.find?_cons,e']
   rw[jXq e,b];exact ih
theorem KV.any {kvs:List (κ×V)} {vs:List (κ×Value)} (r:KV kvs vs) (k:κ):(kvs.any fun kv=>decide (kv.1=k))=vs.any fun kv=>decide (kv.1=k):=by
 unfold KV at r
 induction r with
 | nil=>rfl
 | cons h t ih=>rw[List.any_cons,List.any_cons,ih,h.1]
theorem KV.repl {kvs:List (κ×V)} {vs:List (κ×Value)} (r:KV kvs vs) (k:κ) {y:V} {u:Value} (ry:RelV y u):
  KV (kvs.map fun kv=>if kv.1=k then (kv.1,y) else kv) (vs.map fun kv=>if kv.1=k then (kv.1,u) else kv):=by
 unfold KV at r ⊢
 induction r with
 | nil=>exact .nil
 | @cons p q ps qs h t ih=>
  rw[List.map_cons,List.map_cons]
  refine .cons ?_ ih
  obtain⟨h1,h2⟩:=h
  by_cases e:p.1=k
  ·rw[if_pos e,if_pos (h1.symm.trans e)];exact⟨h1,ry⟩
  ·rw[if_neg e,if_neg (fun z=>e (h1.trans z))];exact⟨h1,h2⟩
theorem KV.put {kvs:List (κ×V)} {vs:List (κ×Value)} (r:KV kvs vs) (k:κ) {y:V} {u:Value} (ry:RelV y u):KV (putK kvs k y) (stored vs k u):=by
 unfold putK stored
 rw[r.any k]
 by_cases e:(vs.any fun kv=>decide (kv.1=k))=true
 ·rw[if_pos e,if_pos e];exact r.repl k ry
 ·rw[if_neg e,if_neg e];exact Paired.snoc r ⟨rfl,ry⟩
theorem KV.length {kvs:List (κ×V)} {vs:List (κ×Value)} (r:KV kvs vs):kvs.length=vs.length:=Paired.length r
end
theorem kJ7 {P:Program} {w:World} {k:Key} {u:Value} (r:RelV (kV k) u):(jJw P w).is k u=true:=by
 cases k with
 | inl i=>obtain⟨t,e⟩:=(show ∃t,u=Value.int i t from r);subst e;exact jYl P w i t
 | inr x=>obtain⟨t,e⟩:=(show ∃t,u=Value.str x t from r);subst e;exact kQg P w x t
abbrev KT (H:Hp):List (TKey×V)->List (TKey×Addr×Value)->Prop:=Paired fun p q=>p.1=q.1/\TKeyAt H p.1 q.2.1/\RelV p.2 q.2.2
theorem KT.val {H:Hp} {kvs:List (TKey×V)} {xs:List (TKey×Addr×Value)} (r:KT H kvs xs) (k:TKey):RelO (valV kvs k) ((atKey xs k).map (·.2)):=by
 induction r with
 | nil=>exact True.intro
 | @cons p q ps qs h t ih=>
  obtain⟨h1,_,h2⟩:=h
  by_cases e:p.1=k
  ·have e':q.1=k:=h1.symm.trans e
   have b:atKey (q::qs) k=some q.2:=by simp[atKey,List.find?_cons,e']
   rw[jXp e,b];exact h2
  ·have e':¬ q.1=k:=fun z=>e (h1.trans z)
   have b:atKey (q::qs) k=atKey qs k:=by simp[atKey,List.find?_cons,e']
   rw[jXq e,b];exact ih
theorem KT.repl {H:Hp} {kvs:List (TKey×V)} {xs:List (TKey×Addr×Value)} (r:KT H kvs xs) (k:TKey) {y:V} {u:Value} (ry:RelV y u):
  KT H (kvs.map fun kv=>if kv.1=k then (kv.1,y) else kv) (xs.map (putAt k u)):=by
 induction r with
 | nil=>exact .nil
 | @cons p q ps qs h t ih=>
  rw[List.map_cons,List.map_cons]
  refine .cons ?_ ih
  obtain⟨h1,h2,h3⟩:=h
  unfold putAt
  by_cases e:p.1=k
  ·rw[if_pos e,if_pos (h1.symm.trans e)];exact⟨h1,h2,ry⟩
  ·rw[if_neg e,if_neg (fun z=>e (h1.trans z))];exact⟨h1,h2,h3⟩
theorem KT.put {H:Hp} {kvs:List (TKey×V)} {xs:List (TKey×Addr×Value)} (r:KT H kvs xs) (k:TKey) {b:Addr} {y:V} {u:Value} (hb:TKeyAt H k b) (ry:RelV y u):
  KT H (putK kvs k y) (storedH xs k b u):=by
 have e:(kvs.any fun kv=>decide (kv.1=k))=(atKey xs k).isSome:=by
  rw[kQu,(r.val k).isSome_eq,Option.isSome_map]
 unfold putK storedH
 rw[e]
 by_cases q:(atKey xs k).isSome=true
 ·rw[if_pos q,if_pos q];exact r.repl k ry
 ·rw[if_neg q,if_neg q];exact Paired.snoc r ⟨rfl,hb,ry⟩
theorem KT.keeps {H H':Hp} {kvs:List (TKey×V)} {xs:List (TKey×Addr×Value)} (r:KT H kvs xs) (ht:∀b ys,H b=some (.tup ys)->H' b=some (.tup ys)):KT H' kvs xs:=
 Paired.mapP r fun _ _ z=>⟨z.1,z.2.1.mono ht,z.2.2⟩
section
variable {P:Program} {w:World} {H:Hp} {h:Heap} {a:Addr}
theorem kZ4 {u:HO} (ok:HOk P w H h) (e:Rd H a u):ObjOk P w H h a u:=e.ok ok
theorem kY7 {kvs:List (Key×V)} (ok:HOk P w H h) (e:Rd H a (.dK kvs)):kvs.length<=sizeLine/\(a == sysModules)=false/\∃vs,KV kvs vs/\h.DictOf (jJw P w) a vs:=
 show ObjOk P w H h a (.dK kvs) from kZ4 ok e
theorem dk_of {kvs:List (Key×V)} (ok:HOk P w H h) (e:H a=some (.dK kvs)):kvs.length<=sizeLine/\(a == sysModules)=false/\∃vs,KV kvs vs/\h.DictOf (jJw P w) a vs:=kY7 ok (.inl e)
theorem kUl {K:Type} [DecidableEq K] {c:Nat} {T:KeyV P w K c} {R:K->V->Prop} (hR:∀k x u,R k x->RelV x u->T.is h k u):∀ {ks:List K} {xs:List V} {us:List Value},Paired R ks xs->Vals xs us->ItemsV T h ks us
 | _,_,_,.nil,.nil=> .nil
 | _,_,_,.cons r t,.cons q z=> .cons (hR _ _ _ r q) (kUl hR t z)
theorem kK1 {K:Type} [DecidableEq K] {c:Nat} {T:KeyV P w K c} {R:K->V->Prop} {ks:List K} {xs:List V} {p:Addr} (ok:HOk P w H h) (hR:∀k x u,R k x->RelV x u->T.is h k u) (e:H p=some (.tup xs)) (r:Paired R ks xs):jY4 T h ks (.ref p):=by
 obtain⟨_,its,q,o,h1,h2,n,h3,_⟩:=(show ObjOk P w H h p (.tup xs) from ok p _ e)
 exact⟨p,o,its.toArray,n,rfl,h1,h2,h3,by simpa using kUl hR r q⟩
theorem r1_of (ok:HOk P w H h) (k:K1) (x:V) (u:Value) (r:Rk1 H k x) (q:RelV x u):(vk1 P w).is h k u:=by
 cases k with
 | inl k=>cases (show x=kV k from r);exact kJ7 (P:=P) (w:=w) q
 | inr ks=>
  obtain⟨p,vs,rfl,e,t⟩:=(show ∃p vs,x= .ref p/\H p=some (.tup vs)/\Paired (fun k v=>v=kV k) ks vs from r)
  cases (show u=Value.ref p from q)
  exact kK1 (T:=jZq P w) ok (fun k x u r q=>by subst r;exact kJ7 (P:=P) (w:=w) q) e t
theorem r2_of (ok:HOk P w H h) (k:K2) (x:V) (u:Value) (r:Rk2 H k x) (q:RelV x u):(vk2 P w).is h k u:=by
 cases k with
 | inl k=>cases (show x=kV k from r);exact kJ7 (P:=P) (w:=w) q
 | inr ks=>
  obtain⟨p,vs,rfl,e,t⟩:=(show ∃p vs,x= .ref p/\H p=some (.tup vs)/\Paired (Rk1 H) ks vs from r)
  cases (show u=Value.ref p from q)
  exact kK1 (T:=vk1 P w) ok (r1_of ok) e t
theorem jXi {ks:TKey} (ok:HOk P w H h) (e:TKeyAt H ks a):(jJk P w).is h ks a:=by
 obtain⟨vs,h1,t⟩:=e
 exact kK1 (T:=vk2 P w) ok (r2_of ok) h1 t
theorem kVs {kvs:List (TKey×V)} (ok:HOk P w H h) (e:Rd H a (.dT kvs)):kvs.length<=sizeLine/\(a == sysModules)=false/\
  ∃xs,KT H kvs xs/\h.DictOfH (jJk P w) a xs:=by
 obtain⟨z,y,xs,r,o,es,ep,h1,h2,h3,h4,h5⟩:=(show ObjOk P w H h a (.dT kvs) from kZ4 ok e)
 refine⟨z,y,xs,r,o,es,ep,h1,h2,h3,h4,fun x hx=> ?_,h5⟩
 have all:∀ {l:List (TKey×V)} {m:List (TKey×Addr×Value)},KT H l m->∀x∈m,(jJk P w).is h x.1 x.2.1:=by
  intro l m q
  induction q with
  | nil=>intro x hx;exact nomatch hx
  | @cons p q ps qs hq t ih=>
   intro x hx
   rcases (List.mem_cons.mp hx) with e | hx
   ·subst e
    exact jXi ok (by rw[<-hq.1];exact hq.2.1)
   ·exact ih x hx
 exact all r x hx
theorem dt_of {kvs:List (TKey×V)} (ok:HOk P w H h) (e:H a=some (.dT kvs)):kvs.length<=sizeLine/\(a == sysModules)=false/\
  ∃xs,KT H kvs xs/\h.DictOfH (jJk P w) a xs:=kVs ok (.inl e)
end
def DGet (H:Hp) (a:Addr) (y:V) (r:Option V):Prop:=
 (∃kvs k,Rd H a (.dK kvs)/\y=kV k/\r=valV kvs k)\/∃kvs k b,Rd H a (.dT kvs)/\y= .ref b/\TKeyAt H k b/\r=valV kvs k
noncomputable def DPut (H:Hp) (a:Addr) (y v:V) (H':Hp):Prop:=
 (∃kvs k,H a=some (.dK kvs)/\y=kV k/\kvs.length<sizeLine/\H'=upd H a (.dK (putK kvs k v)))\/
 ∃kvs k b,H a=some (.dT kvs)/\y= .ref b/\TKeyAt H k b/\kvs.length<sizeLine/\H'=upd H a (.dT (putK kvs k v))
theorem DGet.k {H:Hp} {a:Addr} {kvs:List (Key×V)} {k:Key} (e:H a=some (.dK kvs)):DGet H a (kV k) (valV kvs k):= .inl ⟨kvs,k,.inl e,rfl,rfl⟩
theorem DGet.t {H:Hp} {a b:Addr} {kvs:List (TKey×V)} {k:TKey} (e:H a=some (.dT kvs)) (eb:TKeyAt H k b):DGet H a (.ref b) (valV kvs k):= .inr ⟨kvs,k,b,.inl e,rfl,eb,rfl⟩
theorem DPut.k {H:Hp} {a:Addr} {kvs:List (Key×V)} {k:Key} {v:V} (e:H a=some (.dK kvs)) (hl:kvs.length<sizeLine):DPut H a (kV k) v (upd H a (.dK (putK kvs k v))):= .inl ⟨kvs,k,e,rfl,hl,rfl⟩
theorem DPut.t {H:Hp} {a b:Addr} {kvs:List (TKey×V)} {k:TKey} {v:V} (e:H a=some (.dT kvs)) (eb:TKeyAt H k b) (hl:kvs.length<sizeLine):
  DPut H a (.ref b) v (upd H a (.dT (putK kvs k v))):= .inr ⟨kvs,k,b,e,rfl,eb,hl,rfl⟩
section
variable {X:Cx} {pins:List (Addr×Obj)} {σ:St} {H:Hp} {s:Shared} {a:Addr} {y v:V} {u r:Value} {o:Option V} {A:Around} {E:Value->Shared->Prop}
theorem Inv.big (I:Inv X pins σ H s):sysModules<s.heap.objs.size:=by
 have h:mainGlobals<s.heap.objs.size:=(I.mod.glob.keeps I.bk).lt
 exact Nat.lt_trans (by decide) h
theorem kY8 {Q:Value->Shared->Prop} (hu:A.units+20<cLine) (I:Inv X pins σ H s) (g:DGet H a y (some v)) (ry:RelV y u) (h:∀w' s',Inv X pins σ H s'->RelV v w'->Q w' s'):
  wpAny (model X.prog X.w) A (getItem (.ref a) u) Q E s:=by
 rcases g with ⟨kvs,k,e,ey,l⟩ | ⟨kvs,k,b,e,ey,eb,l⟩
 ·subst ey
  obtain⟨z,hd,vs,rel,dd⟩:=kY7 I.hok e
  obtain⟨w',hw,rw'⟩:=RelO.some_of (v:=v) (o:=valueAt vs k) (by rw[l];exact rel.val k)
  exact wpAny_getItem_of (kJ7 ry) dd.mapOf hw (h w' _ (I.tok _) rw')
 ·subst ey
  cases (show u=Value.ref b from ry)
  obtain⟨z,hd,xs,rel,dd⟩:=kVs I.hok e
  obtain⟨w',hw,rw'⟩:=RelO.some_of (v:=v) (o:=(atKey xs k).map (·.2)) (by rw[l];exact rel.val k)
  obtain⟨p,hp,hp2⟩:=Option.map_eq_some_iff.mp hw
  refine wpAny_getItem_heap (jJ4 hu) (jXi I.hok eb) dd hp ?_
  rw[hp2]
  exact h w' _ (I.tok _) rw'
theorem d_in {Q:Value->Shared->Prop} (hu:A.units+20<cLine) (I:Inv X pins σ H s) (g:DGet H a y o) (ry:RelV y u) (h:∀s',Inv X pins σ H s'->Q (.bool o.isSome) s'):
  wpAny (model X.prog X.w) A (compareOp .In u (.ref a)) Q E s:=by
 rcases g with ⟨kvs,k,e,ey,l⟩ | ⟨kvs,k,b,e,ey,eb,l⟩
 ·subst ey
  obtain⟨z,hd,vs,rel,dd⟩:=kY7 I.hok e
  refine wpAny_in_of (kJ7 ry) hd dd.mapOf ?_
  rw[<-(rel.val k).isSome_eq,<-l]
  exact h _ (I.tok _)
 ·subst ey
  cases (show u=Value.ref b from ry)
  obtain⟨z,hd,xs,rel,dd⟩:=kVs I.hok e
  refine wpAny_in_heap (jJ4 hu) (jXi I.hok eb) hd dd ?_
  have q:=(rel.val k).isSome_eq
  rw[Option.isSome_map] at q
  rw[<-q,<-l]
  exact h _ (I.tok _)
theorem qUv {Q:Value->Shared->Prop} (hu:A.units+20<cLine) (I:Inv X pins σ H s) (g:DGet H a y o) (ry:RelV y u) (h:∀s',Inv X pins σ H s'->Q (.bool (!o.isSome)) s'):
  wpAny (model X.prog X.w) A (compareOp .NotIn u (.ref a)) Q E s:=by
 rcases g with ⟨kvs,k,e,ey,l⟩ | ⟨kvs,k,b,e,ey,eb,l⟩
 ·subst ey
  obtain⟨z,hd,vs,rel,dd⟩:=kY7 I.hok e
  refine wpAny_notIn_of (kJ7 ry) hd dd.mapOf ?_
  rw[<-(rel.val k).isSome_eq,<-l]
  exact h _ (I.tok _)
 ·subst ey
  cases (show u=Value.ref b from ry)
  obtain⟨z,hd,xs,rel,dd⟩:=kVs I.hok e
  refine wpAny_notIn_heap (jJ4 hu) (jXi I.hok eb) hd dd ?_
  have q:=(rel.val k).isSome_eq
  rw[Option.isSome_map] at q
  rw[<-q,<-l]
  exact h _ (I.tok _)
theorem kJn {h':Heap} {t':Nat} {ob:HO} (I:Inv X pins σ H s) (mu:Mut (H a)) (hs:Heap.SameBut a s.heap h') (he:∃q,h'.get? a=some q) (new:ObjOk X.prog X.w (upd H a ob) h' a ob):
  Inv X pins σ (upd H a ob) {s with heap:=h',toks:=t'}:=
 I.write (x:=a) (e:=a) mu (.inl rfl) (fun b q hb z=>(hs.2 b hb).trans z) he new
theorem qK1 {P:Program} {w:World} {H':Hp} {h':Heap} {kvs:List (Key×V)} {vs:List (Key×Value)} (z:kvs.length<=sizeLine) (hd:(a == sysModules)=false) (rel:KV kvs vs) (dd:h'.DictOf (jJw P w) a vs):
  ObjOk P w H' h' a (.dK kvs):=⟨z,hd,vs,rel,dd⟩
theorem kKg {H':Hp} {Q:Unit->Shared->Prop} (hu:A.units+20<cLine) (I:Inv X pins σ H s) (g:DPut H a y v H') (ry:RelV y u) (rv:RelV v r) (h:∀s',Inv X pins σ H' s'->Q () s'):
  wpAny (model X.prog X.w) A (setItem (.ref a) u r) Q E s:=by
 rcases g with ⟨kvs,k,e,ey,l,eH⟩ | ⟨kvs,k,b,e,ey,eb,l,eH⟩
 ·subst ey eH
  obtain⟨z,hd,vs,rel,dd⟩:=dk_of I.hok e
  have hz:vs.length<=sizeLine:=by rw[<-rel.length];exact z
  have hl:(putK kvs k v).length<=sizeLine:=by have:=jYm kvs k v;omega
  refine wpAny_setItem_pairs (hsz:=hz) (kJ7 ry) dd fun h' dd' hs=>h _ ?_
  have he:∃q,h'.get? a=some q:=let ⟨q,_,_,hq,_⟩:=dd';⟨q,hq⟩
  exact kJn I (by rw[e];exact True.intro) hs he (qK1 hl hd (rel.put k rv) dd')
 ·subst ey eH
  cases (show u=Value.ref b from ry)
  obtain⟨z,hd,xs,rel,dd⟩:=dt_of I.hok e
  have hz:xs.length<=sizeLine:=by rw[<-Paired.length rel];exact z
  have hl:(putK kvs k v).length<=sizeLine:=by have:=jYm kvs k v;omega
  refine wpAny_setItem_heap (hsz:=hz) (jJ4 hu) (jXi I.hok eb) dd fun h' dd' hs=>h _ ?_
  obtain⟨q,es,ep,hq,h2,h3,h4,_,h5⟩:=dd'
  refine kJn I (by rw[e];exact True.intro) hs ⟨q,hq⟩ ⟨hl,hd,_,(rel.put k eb rv).keeps fun c ys ec=> ?_,q,es,ep,hq,h2,h3,h4,h5⟩
  rw[jJu (ne_of ec e (fun z=>nomatch z))]
  exact ec
end
section
variable {X:Cx} {pins:List (Addr×Obj)} {σ:St} {H:Hp} {s:Shared} {a:Addr} {kvs:List (Key×V)} {k:Key} {u:Value} {A:Around} {E:Value->Shared->Prop}
end
theorem kQn {X:Cx} {pins:List (Addr×Obj)} {σ:St} {H:Hp} {s:Shared} {a:Addr} {y:V} {o:Option V} (I:Inv X pins σ H s) (g:DGet H a y o):s.TypeIs (.ref a) "dict":=by
 rcases g with ⟨kvs,k,e,_,_⟩ | ⟨kvs,k,b,e,_,_,_⟩
 ·obtain⟨_,_,vs,_,dd⟩:=kY7 I.hok e
  exact dd.typeIs
 ·obtain⟨_,_,xs,_,dd⟩:=kVs I.hok e
  exact dd.typeIs
section
variable {X:Cx} {o i e value:Expr} {pos pos' tpos:Pos} {td ty tv:TE}
end
theorem kUy {P:Program} {w:World} {H:Hp} (h:Heap) (hb:sysModules<h.objs.size):ObjOk P w H (h.push {cls:= .type "dict",data:= .dict #[]}) h.objs.size (.dK []):=
 ⟨Nat.zero_le _,beq_eq_false_iff_ne.mpr (Ne.symm (Nat.ne_of_lt hb)),[],.nil,Heap.DictOf.new h⟩
theorem qJ6 {P:Program} {w:World} {H:Hp} (h:Heap) (hb:sysModules<h.objs.size):ObjOk P w H (h.push {cls:= .type "dict",data:= .dict #[]}) h.objs.size (.dT []):=
 ⟨Nat.zero_le _,beq_eq_false_iff_ne.mpr (Ne.symm (Nat.ne_of_lt hb)),[],.nil,_,#[],0,Heap.get?_push_size _ rfl,⟨rfl,rfl,rfl⟩,rfl,rfl,List.nodup_nil⟩
def tDNewK:TE:=fun _ H Q=>∀p,H p=none->Q (.ref p) (upd H p (.dK []))
def tDNewT:TE:=fun _ H Q=>∀p,H p=none->Q (.ref p) (upd H p (.dT []))
section
variable {X:Cx} {pos:Pos}
theorem qJd:PE X (.Dict [] [] pos) tDNewK:=fun pins s σ H Q I h=>
 wpAny_Dict_empty ⟨.ref s.heap.objs.size,_,I.laid (a:=s.heap.objs.size) (o:= .dK []) (t':=s.toks) (fun _ _ q=>Heap.get?_push_of_some _ q) (Nat.le_refl _) (kUy s.heap I.big),rfl,h _ (I.hok.fresh (Nat.le_refl _))⟩
theorem qJc:PE X (.Dict [] [] pos) tDNewT:=fun pins s σ H Q I h=>
 wpAny_Dict_empty ⟨.ref s.heap.objs.size,_,I.laid (a:=s.heap.objs.size) (o:= .dT []) (t':=s.toks) (fun _ _ q=>Heap.get?_push_of_some _ q) (Nat.le_refl _) (qJ6 s.heap I.big),rfl,h _ (I.hok.fresh (Nat.le_refl _))⟩
end
abbrev VV:List (V×V)->List (Value×Value)->Prop:=Paired fun p q=>RelV p.1 q.1/\RelV p.2 q.2
def mergeK (kvs more:List (Key×V)):List (Key×V):=more.foldl (fun acc kv=>putK acc kv.1 kv.2) kvs
theorem KV.merge:∀ {more:List (Key×V)} {rs:List (Key×Value)} {kvs:List (Key×V)} {vs:List (Key×Value)},KV more rs->KV kvs vs->KV (mergeK kvs more) (merged vs rs):=by
 intro more rs kvs vs r
 unfold KV at r
 induction r generalizing kvs vs with
 | nil=>intro q;exact q
 | @cons p q ps qs h t ih=>
  intro r0
  have e:KV (putK kvs p.1 p.2) (stored vs q.1 q.2):=by
   have:=r0.put p.1 h.2
   rw[<-h.1];exact this
  exact ih e
theorem jZp {P:Program} {w:World}:∀ {kvs:List (Key×V)} {ws:List (Value×Value)},VV (kvs.map fun kv=>(kV kv.1,kv.2)) ws->∃rs,Carries (jJw P w) ws rs/\KV kvs rs
 | [],_,r=>by rw[List.map_nil] at r;cases r;exact⟨[],True.intro,.nil⟩
 | p::kvs,_,r=>by
  rw[List.map_cons] at r
  cases r with
  | @cons a b as bs h t=>
   obtain⟨rs,c,q⟩:=jZp (P:=P) (w:=w) t
   obtain⟨b1,b2⟩:=b
   exact⟨(p.1,b2)::rs,⟨kJ7 h.1,rfl,c⟩,.cons ⟨rfl,h.2⟩ q⟩
section
variable {X:Cx} {pins:List (Addr×Obj)} {σ:St} {H:Hp} {s:Shared} {a:Addr} {y d:V} {u r:Value} {o:Option V} {A:Around} {E:Value->Shared->Prop}
end
section
variable {X:Cx} {o e f:Expr} {apos cpos:Pos} {td ty tx:TE}
end
section
variable {X:Cx} {pins:List (Addr×Obj)} {σ:St} {H:Hp} {s:Shared} {a:Addr} {kvs:List (Key×V)} {A:Around} {E:Value->Shared->Prop}
end
section
variable {X:Cx} {pins:List (Addr×Obj)} {σ:St} {H:Hp} {s:Shared} {a:Addr} {y:V} {u:Value} {A:Around} {E:Value->Shared->Prop}
end
end L2
namespace Att
open PySem PySem.W PySem.Calls PyProof.Rows
theorem jYn {P:Params} {h:Heap}:∀(ns:List Int) (vs:List Value),WellAll P h vs (ns.map WData.int)->IntsAre vs ns:=by
 intro ns
 induction ns with
 | nil=>
  intro vs w
  rw[List.map_nil] at w
  cases w
  exact .nil
 | cons n ns ih=>
  intro vs w
  rw[List.map_cons] at w
  cases w with
  | cons a b=>
   cases a
   exact .cons _ _ (ih _ b)
theorem kXd {l:OpenLaw} {n:Nat} (hn:l.most=some n) {P:Params} {h:Heap} {args:List WData} {vals:List Value}
  (hpre:l.row.toRowW.claim.pre args=true) (hwl:WellAll P h vals args):
  ∃a vs ns,vals=[Value.ref a]/\args=[WData.list (ns.map WData.int)]/\h.get? a=some {cls:= .type "list",data:= .seq vs.toArray}/\IntsAre vs ns/\ns.length<=n:=by
 have hsh:WShape.hasAll [] args [.list .int]=true:=(pre_splitW hpre).1
 have hc:l.pre.holds [] {args:=args}=true:=(pre_splitW hpre).2
 obtain⟨d,r,rfl,h1,h2⟩:=hasAllW_cons hsh
 obtain rfl:=hasAllW_nil h2
 obtain⟨xs,rfl,h3⟩:=hasW_list h1
 obtain⟨ns,rfl⟩:=items_int h3
 have hlen:ns.length<=n:=by
  unfold OpenLaw.pre at hc
  have h4:(WTm.not (.lt (.lit (.int (n:Int))) (.len (.arg 0)))).holds [] {args:=[.list (ns.map .int)]}=true:=by
   have h4:=(holds_andW hc).1
   rw[hn] at h4
   exact h4
  have h5:=condW_of h4 (w_not (w_lt w_lit (w_len_list (w_arg rfl))))
  rw[List.length_map] at h5
  refine Nat.le_of_not_lt fun q=> ?_
  have q':(n:Int)<((ns.length:Nat):Int):=by omega
  first
   | (rw[decide_eq_true q'] at h5;exact absurd h5 (by decide))
   | (simp at h5;omega)
 cases hwl with
 | cons w1 w2=>
  cases w2
  cases w1 with
  | list ho hall=>exact⟨_,_,ns,rfl,rfl,ho,jYn ns _ hall,hlen⟩
theorem kXr (l:OpenLaw) (args:List WData):l.row.toRowW.claim.post args (.bool true) args=true:=
 postW_of (r:=l.row.toRowW) (X:=(true == true))
  (show WShape.has [] (.bool true) .bool=true by first | rfl | decide | simp[WShape.has,WShape.arms,WShape.armsAll])
  (show (WTm.eq .res (.lit (.bool true))).value [] {args:=args,res:=some (.bool true),after:=args}=some (.bool (true == true)) from w_eq_bool (w_res rfl) w_lit) rfl
theorem attach_call {l:OpenLaw} {n:Nat} {q:Program} {loose:List Str} {XP:(Str->Option Value)->Heap->Prop} {YP:World->Heap->Prop} {d:DefRec}
  (hn:l.most=some n) (hdf:d.params.defaults=[])
  (call:∀(w:World) (s₀ s₁:Shared) (mg mb:Str->Option Value) (fa:Addr) (o:Obj) (pm cd doc:Value) (a:Addr) (vs:List Value) (ns:List Int),
   Ground q loose [] XP w s₀ mg mb s₁.heap->YP w s₁.heap->
   s₁.heap.get? fa=some o->o.data= .func (docDef d.name d.params d.body d.scope pm cd doc)->s₁.heap.CodeRec cd d.name->mg d.name=some (.ref fa)->
   s₁.heap.get? a=some {cls:= .type "list",data:= .seq vs.toArray}->IntsAre vs ns->ns.length<=n->s₁.gens= #[]->
   codeAny (model l.prog w) callerA (.call (.ref fa) ⟨[.ref a],[]⟩) (fun r s'=>r= .ok (.ret (.bool true))/\OldK s₁.heap s'.heap/\s'.os=s₁.os/\AllBare s'.gens) s₁):
  WalkO q loose XP YP l.row.toRowW d [] (fun f vs=>PySem.call f vs):=by
 intro w s₀ s₁ mg mb G Y fa o pm cd doc dV kV ho hd hcd hD hmg hg args vals as hpre hlay hrd hwl hlo
 obtain rfl:dV= .none:=Dflts.none hD hdf
 obtain rfl:kV= .none:=Dflts.noKw hD
 obtain⟨a,vs,ns,rfl,rfl,hobj,hints,hlen⟩:=kXd hn hpre hwl
 refine enter_call (codeAny_mono (call w s₀ s₁ mg mb fa o pm cd doc a vs ns G Y ho (fd_plain hd) hcd hmg hobj hints hlen hg) fun r s' hq=> ?_)
 obtain⟨rfl,h2,h3,h4⟩:=hq
 exact⟨.inl ⟨.bool true,.bool true,[],rfl,fun _=>rfl,.bool true,kXr l _,fun _=>⟨List.Pairwise.nil,fun _ hm=>(nomatch hm)⟩⟩,h2,h3,h4⟩
section
variable {prog:Program} {w:World} {A:Around} {E:Value->Shared->Prop} {s:Shared} {K:Frag}
end
end Att
namespace L2
open PySem PySem.Spec PyProof.Rows
theorem jUh:∀ {vs:List Value} {ns:List Int},IntsAre vs ns->Vals (ns.map V.int) vs
 | _,_,.nil=> .nil
 | _,_,.cons n t h=> .cons ⟨t,rfl⟩ (jUh h)
def Only (H:Hp):Prop:=∀b,H b=none\/∃o xs,H b=some (.frz o (.lst xs))
theorem qJq {P:Program} {w:World} {K:PySem.W.Frag} {mg mb:Str->Option Value} {CX:CXT} {k:Nat} {fa a:Addr} {fd:FuncData} {x:Str} {sp:Sp} {s₁:Shared} {vs:List Value} {ns:List Int}
  (KX:K.In s₁.heap) (hns:s₁.heap.Ns mainGlobals mg) (hb:s₁.heap.Ns builtinsNs mb) (hbb:∀x:Str,x≠"__name__"->mb x=bootBuiltins x) (hlim:s₁.heap.NoLimit) (hg:s₁.gens= #[])
  (ha:s₁.heap.get? a=some {cls:= .type "list",data:= .seq vs.toArray}) (hi:IntsAre vs ns) (hl:ns.length<=sizeLine) (hr:Room k callerA)
  (F:∀base:Heap,K.In base->base.Ns mainGlobals mg->FnOk P w K mg base CX k fa fd [x] sp) (hbind:∀(s:Shared) (u:Value),BindsTo s fd ⟨[u],[]⟩ [(x,u)])
  (hsp:∀H:Hp,Only H->SqL K H a (ns.map V.int)->sp [.ref a] H (fun v _=>v= .bl true) fun _ _ _=>False)
  (hCX:∀H e s',CX [] H s₁ (fun _ _ _=>False) e s'->False):
  codeAny (model P w) callerA (.call (.ref fa) ⟨[.ref a],[]⟩) (fun r s'=>r= .ok (.ret (.bool true))/\OldK s₁.heap s'.heap/\s'.os=s₁.os/\AllBare s'.gens) s₁:=by
 have rv:=jUh hi
 have lenV:=hi.length
 have core:∀H:Hp,Only H->SqL K H a (ns.map V.int)->HOk P w H s₁.heap->(∀b,H b≠none->b=a)->(H a≠none->K.lookup a=none)->
   codeAny (model P w) callerA (.call (.ref fa) ⟨[.ref a],[]⟩) (fun r s'=>r= .ok (.ret (.bool true))/\OldK s₁.heap s'.heap/\s'.os=s₁.os/\AllBare s'.gens) s₁:=by
  intro H hO hS hok hA hK
  have base_of:∀ {b:Addr} {o:Obj},s₁.heap.get? b=some o->H b=none->(hidT s₁.heap H).get? b=some o:=fun e n=>qJz e n
  have noA:∀ {b:Addr} {o:Obj} {es:Array DictEntry} {ep:Nat},s₁.heap.get? b=some o->o.data= .dict es ep->H b=none:=fun {b o es ep} e d=>by
   cases q:H b with
   | none=>rfl
   | some u=>
    have e':b=a:=hA b (by rw[q];simp)
    subst e'
    rw[ha] at e;cases e
    have d':Data.seq vs.toArray _=Data.dict es ep:=d
    cases d'
  have nsK:∀ {b:Addr} {m:Str->Option Value},s₁.heap.Ns b m->(hidT s₁.heap H).Ns b m:=fun {b m} ⟨o,es,ep,e,d,r⟩=>⟨o,es,ep,base_of e (noA e d),d,r⟩
  have hKb:K.In (hidT s₁.heap H):=fun b o e=>base_of (KX b o e) (by
   cases q:H b with
   | none=>rfl
   | some u=>
    have e':b=a:=hA b (by rw[q];simp)
    subst e'
    rw[hK (by rw[q];simp)] at e;cases e)
  have hM:Mod K mg (hidT s₁.heap H):=⟨hKb,nsK hns,⟨mb,nsK hb,hbb⟩,let ⟨mc,h1,h2⟩:=hlim;⟨mc,nsK h1,h2⟩⟩
  have e0:Env0 P w K mg (hidT s₁.heap H) callerA [] s₁ H:=⟨rfl,hM,fun b o e=>qQv e,Nat.le_of_eq (kYn _ _),trivial,fun b hb=>absurd (show b∈([]:List Addr) from hb) (by simp),hok,.of_eq hg⟩
  refine codeAny_mono ((F _ hKb (nsK hns)).run callerA [] s₁ H ⟨[.ref a],[]⟩ [.ref a] [.ref a] _ _ hr e0 (hbind s₁ (.ref a)) (.cons rfl .nil) (hsp H hO hS)) fun r s' h=> ?_
  cases r with
  | error e=>exact (hCX H e s' h).elim
  | ok fl=>
   cases fl with
   | next=>exact False.elim h
   | brk=>exact False.elim h
   | cont=>exact False.elim h
   | ret u=>
    obtain⟨v,H',os,bare,un,hok',r',q⟩:=h
    have q':v= .bl true:=q
    subst q'
    obtain rfl:u=Value.bool true:=r'
    refine⟨rfl,OldK.of_keep fun b o e=> ?_,os,bare⟩
    cases q:H b with
    | none=>exact un.keep b o e q (by intro z;exact absurd (show b∈([]:List Addr) from z) (by simp)) (by simp)
    | some u=>
     rcases hO b with z | ⟨ob,xs,z⟩
     ·rw[q] at z;cases z
     ·have z2:=un.frzs b ob _ z
      obtain⟨e1,_⟩:=hok b _ z
      obtain⟨e2,_⟩:=hok' b _ z2
      rw[e] at e1;cases e1
      exact e2
 cases hk:K.lookup a with
 | some o=>
  have e:=KX a o hk
  rw[ha] at e
  cases e
  refine core (fun _=>none) (fun _=> .inl rfl) (.inr ⟨_,vs.toArray,_,hk,rfl,rfl,rfl,by rw[List.size_toArray,lenV];exact hl,by simpa using rv⟩) (fun b u z=>by have z':(none:Option HO)=some u:=z;cases z') (fun b z=>absurd rfl z) fun z=>absurd rfl z
 | none=>
  refine core (fun b=>if b=a then some (.frz {cls:= .type "list",data:= .seq vs.toArray} (.lst (ns.map V.int))) else none) (fun b=> ?_) (.inl (.inr ⟨{cls:= .type "list",data:= .seq vs.toArray},if_pos rfl⟩)) (fun b u z=> ?_) (fun b z=> ?_) fun _=>hk
  ·by_cases hb:b=a
   ·exact .inr ⟨_,_,if_pos hb⟩
   ·exact .inl (if_neg hb)
  ·by_cases hb:b=a
   ·have z':=(if_pos hb).symm.trans z
    cases z'
    subst hb
    exact⟨ha,by rw[List.length_map];exact hl,vs,_,rv,ha⟩
   ·have z':=(if_neg hb).symm.trans z
    cases z'
  ·by_cases hb:b=a
   ·exact hb
   ·exact absurd (if_neg hb) z
theorem walk_of {l:PySem.W.OpenLaw} {n k:Nat} {q:Program} {loose:List Str} {XP:(Str->Option Value)->Heap->Prop} {YP:World->Heap->Prop} {d:DefRec} {K:Params->PySem.W.Frag} {CX:World->CXT} {sp:World->Sp} {x:Str}
  (hn:l.most=some n) (hn2:n<=sizeLine) (hdf:d.params.defaults=[]) (hr:Room k callerA)
  (hY:∀(w:World) (h:Heap),YP w h->(K w.params).In h)
  (F:∀(w:World) (mg:Str->Option Value) (fa:Addr) (h:Heap),(K w.params).In h->h.Ns mainGlobals mg->mg d.name=some (.ref fa)->
   ∃fd:FuncData,(∀(s:Shared) (u:Value),BindsTo s fd ⟨[u],[]⟩ [(x,u)])/\
    ∀base:Heap,(K w.params).In base->base.Ns mainGlobals mg->FnOk l.prog w (K w.params) mg base (CX w) k fa fd [x] (sp w))
  (hsp:∀(w:World) (H:Hp) (a:Addr) (ns:List Int),ns.length<=n->Only H->SqL (K w.params) H a (ns.map V.int)->sp w [.ref a] H (fun v _=>v= .bl true) fun _ _ _=>False)
  (hCX:∀(w:World) (H:Hp) (s:Shared) (e:Value) (s':Shared),CX w [] H s (fun _ _ _=>False) e s'->False):
  PySem.W.WalkO q loose XP YP l.row.toRowW d [] (fun f vs=>PySem.call f vs):=by
 refine Att.attach_call hn hdf fun w s₀ s₁ mg mb fa o pm cd doc a vs ns G Y ho hd hcd hmg hobj hints hlen hg=> ?_
 have KX:=hY w _ Y
 obtain⟨fd,hb,hF⟩:=F w mg fa _ KX G.T.g hmg
 exact qJq KX G.T.g G.T.b G.T.builtins G.T.nolimit hg hobj hints (Nat.le_trans hlen hn2) hr hF hb (fun H hO hS=>hsp w H a ns hlen hO hS) fun H e s'=>hCX w H s₁ e s'
noncomputable def jVc (s:Stmt):Arguments:=match s with
 | .FunctionDef _ a _ _ _ _ _ _ _ _=>a
 | _=>{posonlyargs:=[],args:=[],vararg:=none,kwonlyargs:=[],kw_defaults:=[],kwarg:=none,defaults:=[]}
def jQs (s:Stmt):List Stmt:=match s with
 | .FunctionDef _ _ b _ _ _ _ _ _ _=>b
 | _=>[]
def jJv (s:Stmt):Scope:=match s with
 | .FunctionDef _ _ _ _ _ _ sc _ _ _=>sc
 | _=>{kind:= .function,names:=[],isGenerator:=false,isCoroutine:=false}
abbrev CX0:CXT:=fun _ _ _ _ _ _=>False
abbrev E0:XK:=fun _ _ _=>False
theorem pass0 {X:Cx}:qK2 CX0 X E0:=fun _ _ _ _ _ _ _ h=>h.elim
structure Fun (K:PySem.W.Frag) (x qual:Str) (st:Stmt) (f:Addr) (fd:FuncData):Prop where
 ex:∃(oc:Value) (od:Option Addr) (kV doc pm:Value) (an:Option Addr) (cdv ct:Value) (osl:Array (Option Value)),
  fd=PySem.W.fnOf x qual (jVc st) (jQs st) (jJv st) .none kV doc pm an cdv ct/\K.lookup f=some ⟨oc,od,.func fd,osl⟩/\PySem.W.codeIn K cdv qual=true
 kp:PySem.W.keepIn K (.ref f)=true
section
variable {P:Program} {w:World} {K:PySem.W.Frag} {mg:Str->Option Value} {base:Heap}
theorem Fun.ok {x qual:Str} {st:Stmt} {f:Addr} {fd:FuncData} {N ps:List Str} {k:Nat} {sp:Sp} (F:Fun K x qual st f fd) (S:FnScope N ps (jJv st)) (len:∀vs H Q E,sp vs H Q E->vs.length=ps.length)
  (hbody:∀(cdv:Value) (A:Around) (outer:List Env) (s:Shared) (H:Hp) (vs:List V) (Q:VK) (E:XK),Room k (A.deeper (envOfC qual (jJv st) s.heap.objs.size f cdv))->sp vs H Q E->
   ∃t,PSs (cxOf CX0 P w K mg base N qual (jJv st) f cdv A outer s H E).nox (jQs st) t/\t {nx:=fun _ H'=>Q .non H',rt:=Q} (start N vs) H):FnOk P w K mg base CX0 (k+1) f fd ps sp:=by
 obtain⟨oc,od,kV,doc,pm,an,cdv,ct,osl,rfl,lk,hcd⟩:=F.ex
 refine fn_of lk hcd S len fun A outer s H vs Q E hr hsp=> ?_
 obtain⟨t,h,q⟩:=hbody cdv A outer s H vs Q E hr hsp
 exact⟨t,h.nox,q⟩
theorem Fun.binds {x qual:Str} {st:Stmt} {f:Addr} {fd:FuncData} {ps:List Str} (F:Fun K x qual st f fd)
  (h:∀(kV doc pm:Value) (an:Option Addr) (cdv ct:Value) (us:List Value),us.length=ps.length->bindArgs (PySem.W.fnOf x qual (jVc st) (jQs st) (jJv st) .none kV doc pm an cdv ct) ⟨us,[]⟩=pure (ps.zip us)):Binds K fd ps []:=by
 obtain⟨oc,od,kV,doc,pm,an,cdv,ct,osl,rfl,lk,hcd⟩:=F.ex
 exact .all (h kV doc pm an cdv ct)
theorem fun_mk {x qual:Str} {st:Stmt} {f:Addr} {oc:Value} {od an:Option Addr} {osl:Array (Option Value)} {kV doc pm cdv ct:Value} (l:K.lookup f=some ⟨oc,od,.func (PySem.W.fnOf x qual (jVc st) (jQs st) (jJv st) .none kV doc pm an cdv ct),osl⟩)
  (c:PySem.W.codeIn K cdv qual=true) (k:PySem.W.keepIn K (.ref f)=true):Fun K x qual st f (PySem.W.fnOf x qual (jVc st) (jQs st) (jJv st) .none kV doc pm an cdv ct):=⟨⟨oc,od,kV,doc,pm,an,cdv,ct,osl,rfl,l,c⟩,k⟩
end
theorem hu_of {A:Around} {k:Nat} (hr:Room k A):A.units+20<cLine:=Nat.lt_of_le_of_lt (Nat.add_le_add_left (by decide:20<=64) _) hr.units
section
variable {X:Cx}
end
end L2
set_option Elab.async false
set_option linter.all false
set_option maxRecDepth 100000
set_option maxHeartbeats 5000000
namespace L3
open PySem PySem.Spec PyProof.Rows L2
inductive T where
 | non | bl (b:Bool) | int (i:Int) | str (x:Str) | tup (xs:List T) | scr (xs:List T) | ref (a:Addr) | ty (n:String)
structure Ext (H H':Hp):Prop where
 tup:∀b xs,H b=some (.tup xs)->H' b=some (.tup xs)
 frz:∀b ob u,H b=some (.frz ob u)->H' b=some (.frz ob u)
theorem Ext.refl (H:Hp):Ext H H:=⟨fun _ _ h=>h,fun _ _ _ h=>h⟩
theorem Ext.trans {H H1 H2:Hp} (a:Ext H H1) (b:Ext H1 H2):Ext H H2:=⟨fun c o h=>b.tup c o (a.tup c o h),fun c o u h=>b.frz c o u (a.frz c o u h)⟩
noncomputable def FrL (K:PySem.W.Frag) (H:Hp) (a:Addr) (xs:List V):Prop:=
 (∃ob,H a=some (.frz ob (.lst xs)))\/
  ∃(o:Obj) (its:Array Value) (n:Nat),K.lookup a=some o/\o.cls= .type "list"/\o.dict=none/\o.data= .seq its n/\its.size<=sizeLine/\Vals xs its.toList
theorem FrL.sq {K:PySem.W.Frag} {H:Hp} {a:Addr} {xs:List V} (h:FrL K H a xs):SqL K H a xs:=by
 rcases h with ⟨ob,h⟩ | h
 ·exact .inl (.inr ⟨ob,h⟩)
 ·exact .inr h
theorem FrL.mono {K:PySem.W.Frag} {H H':Hp} {a:Addr} {xs:List V} (e:Ext H H') (h:FrL K H a xs):FrL K H' a xs:=by
 rcases h with ⟨ob,h⟩ | h
 ·exact .inl ⟨ob,e.frz _ _ _ h⟩
 ·exact .inr h
mutual
noncomputable def Rep (K:PySem.W.Frag) (H:Hp):T->V->Prop
 | .non,v=>v= .non
 | .bl b,v=>v= .bl b
 | .int i,v=>v= .int i
 | .str x,v=>v= .str x
 | .ref a,v=>v= .ref a
 | .ty n,v=>v= .ty n
 | .tup xs,v=>∃a vs,v= .ref a/\H a=some (.tup vs)/\Reps K H xs vs
 | .scr xs,v=>∃a vs,v= .ref a/\FrL K H a vs/\Reps K H xs vs
noncomputable def Reps (K:PySem.W.Frag) (H:Hp):List T->List V->Prop
 | [],vs=>vs=[]
 | x::xs,vs=>∃v ws,vs=v::ws/\Rep K H x v/\Reps K H xs ws
end
mutual
theorem Rep.mono {K:PySem.W.Frag} {H H':Hp} (e:Ext H H'):∀(x:T) {v:V},Rep K H x v->Rep K H' x v
 | .non,_,h=>h
 | .bl _,_,h=>h
 | .int _,_,h=>h
 | .str _,_,h=>h
 | .ref _,_,h=>h
 | .ty _,_,h=>h
 | .tup xs,_,⟨a,vs,r1,r2,r3⟩=>⟨a,vs,r1,e.tup _ _ r2,Reps.mono e xs r3⟩
 | .scr xs,_,⟨a,vs,r1,r2,r3⟩=>⟨a,vs,r1,r2.mono e,Reps.mono e xs r3⟩
theorem Reps.mono {K:PySem.W.Frag} {H H':Hp} (e:Ext H H'):∀(xs:List T) {vs:List V},Reps K H xs vs->Reps K H' xs vs
 | [],_,h=>h
 | x::xs,_,⟨v,ws,r1,r2,r3⟩=>⟨v,ws,r1,Rep.mono e x r2,Reps.mono e xs r3⟩
end
section
variable {K:PySem.W.Frag} {H:Hp}
theorem Reps.length:∀ {xs:List T} {vs:List V},Reps K H xs vs->xs.length=vs.length
 | [],_,h=>by cases h;rfl
 | _::_,_,⟨_,_,r1,_,r3⟩=>by subst r1;simp[Reps.length r3]
theorem Reps.get:∀ {xs:List T} {vs:List V} {i:Nat} {x:T},Reps K H xs vs->xs[i]? =some x->∃v,vs[i]? =some v/\Rep K H x v
 | [],_,_,_,_,e=>by simp at e
 | y::ys,_,0,x,⟨v,ws,r1,r2,r3⟩,e=>by subst r1;simp at e;subst e;exact⟨v,rfl,r2⟩
 | y::ys,_,i+1,x,⟨v,ws,r1,r2,r3⟩,e=>by subst r1;simpa using Reps.get r3 (by simpa using e)
theorem Reps.get':∀ {xs:List T} {vs:List V} {i:Nat} {v:V},Reps K H xs vs->vs[i]? =some v->∃x,xs[i]? =some x/\Rep K H x v
 | [],_,_,_,h,e=>by cases h;simp at e
 | y::ys,_,0,x,⟨v,ws,r1,r2,r3⟩,e=>by subst r1;simp at e;subst e;exact⟨y,rfl,r2⟩
 | y::ys,_,i+1,x,⟨v,ws,r1,r2,r3⟩,e=>by subst r1;simpa using Reps.get' r3 (by simpa using e)
theorem Reps.append:∀ {xs ys:List T} {vs ws:List V},Reps K H xs vs->Reps K H ys ws->Reps K H (xs++ys) (vs++ws)
 | [],_,_,_,h,h2=>by cases h;exact h2
 | _::_,_,_,_,⟨v,ws,r1,r2,r3⟩,h2=>by subst r1;exact⟨v,_,rfl,r2,Reps.append r3 h2⟩
theorem Reps.one {x:T} {v:V} (r:Rep K H x v):Reps K H [x] [v]:=⟨v,[],rfl,r,rfl⟩
theorem Reps.set {x:T} {v:V} (r:Rep K H x v):∀ {xs:List T} {vs:List V} (i:Nat),Reps K H xs vs->Reps K H (xs.set i x) (vs.set i v)
 | [],_,_,e=>by cases e;rfl
 | _::_,_,0,⟨_,ws,r1,r2,r3⟩=>by subst r1;exact⟨v,ws,rfl,r,r3⟩
 | _::_,_,i+1,⟨u,ws,r1,r2,r3⟩=>by subst r1;exact⟨u,_,rfl,r2,Reps.set r i r3⟩
theorem Reps.take:∀ {xs:List T} {vs:List V} (n:Nat),Reps K H xs vs->Reps K H (xs.take n) (vs.take n)
 | _,_,0,_=>by simp[Reps]
 | [],_,_+1,h=>by cases h;simp[Reps]
 | _::_,_,n+1,⟨u,ws,r1,r2,r3⟩=>by subst r1;exact⟨u,_,rfl,r2,Reps.take n r3⟩
theorem Reps.drop:∀ {xs:List T} {vs:List V} (n:Nat),Reps K H xs vs->Reps K H (xs.drop n) (vs.drop n)
 | _,_,0,h=>h
 | [],_,_+1,h=>by cases h;simp[Reps]
 | _::_,_,n+1,⟨u,ws,r1,r2,r3⟩=>by subst r1;exact Reps.drop n r3
theorem Reps.rep {xs:List T} {vs:List V} (r:Reps K H xs vs):∀n:Nat,Reps K H (List.replicate n xs).flatten (List.replicate n vs).flatten
 | 0=>by simp[Reps]
 | n+1=>by simpa[List.replicate_succ] using r.append (Reps.rep r n)
theorem Reps.atI {xs:List T} {vs:List V} {i:Int} {x:T} (r:Reps K H xs vs) (h:atI xs i=some x):∃v,atI vs i=some v/\Rep K H x v:=by
 unfold L2.atI at h ⊢
 rw[<-r.length]
 cases e:ixN xs.length i with
 | none=>rw[e] at h;cases h
 | some j=>rw[e] at h;exact r.get h
end
inductive GO where
 | lst (xs:List T) | dct (kvs:List (TKey×T)) | dck (kvs:List (Key×T)) | fdc (kvs:List (TKey×T)) | ins (cn:Str) (fs:List (Str×T))
abbrev Gp:=Addr->Option GO
def gup (G:Gp) (a:Addr) (o:GO):Gp:=fun b=>if b=a then some o else G b
theorem jJd {G:Gp} {a:Addr} {o:GO}:gup G a o a=some o:=by simp[gup]
theorem jJm {G:Gp} {a b:Addr} {o:GO} (h:b≠a):gup G a o b=G b:=by simp[gup,h]
theorem kYp {G:Gp} {a:Addr} {o o':GO}:gup (gup G a o) a o'=gup G a o':=by funext b;by_cases h:b=a<;>simp[gup,h]
def asL:Option GO->Option (List T)
 | some (.lst xs)=>some xs
 | _=>none
def seqT (G:Gp):T->Option (List T)
 | .tup xs=>some xs
 | .scr xs=>some xs
 | .ref a=>asL (G a)
 | _=>none
def PKV {κ:Type} (K:PySem.W.Frag) (H:Hp):List (κ×T)->List (κ×V)->Prop:=Paired fun p q=>p.1=q.1/\Rep K H p.2 q.2
noncomputable def GOk (K:PySem.W.Frag) (H:Hp) (a:Addr):GO->Prop
 | .lst xs=>∃vs,H a=some (.lst vs)/\Reps K H xs vs
 | .dct kvs=>∃ws,H a=some (.dT ws)/\PKV K H kvs ws
 | .dck kvs=>∃ws,H a=some (.dK ws)/\PKV K H kvs ws
 | .fdc kvs=>∃ob ws,H a=some (.frz ob (.dT ws))/\PKV K H kvs ws
 | .ins cn fs=>∃C dx ws,H a=some (.ins C dx ws)/\PySem.W.nsIn K mainGlobals cn=some (some (.ref C))/\PKV K H fs ws
def GRel (K:PySem.W.Frag) (H:Hp) (G:Gp):Prop:=∀a o,G a=some o->GOk K H a o
section
variable {K:PySem.W.Frag} {H H':Hp} {G:Gp} {a:Addr}
theorem PKV.mono {κ:Type} {kvs:List (κ×T)} {ws:List (κ×V)} (e:Ext H H') (h:PKV K H kvs ws):PKV K H' kvs ws:=Paired.mapP h fun _ _ z=>⟨z.1,Rep.mono e _ z.2⟩
theorem GOk.move {o:GO} (h:GOk K H a o) (e:Ext H H') (ha:H' a=H a):GOk K H' a o:=by
 cases o with
 | lst xs=>obtain⟨vs,h1,h2⟩:=h;exact⟨vs,ha.trans h1,Reps.mono e _ h2⟩
 | dct kvs=>obtain⟨vs,h1,h2⟩:=h;exact⟨vs,ha.trans h1,h2.mono e⟩
 | dck kvs=>obtain⟨vs,h1,h2⟩:=h;exact⟨vs,ha.trans h1,h2.mono e⟩
 | fdc kvs=>obtain⟨ob,vs,h1,h2⟩:=h;exact⟨ob,vs,ha.trans h1,h2.mono e⟩
 | ins cn fs=>obtain⟨C,dx,ws,h1,h2,h3⟩:=h;exact⟨C,dx,ws,ha.trans h1,h2,h3.mono e⟩
theorem GOk.some {o:GO} (h:GOk K H a o):H a≠none:=by
 cases o with
 | lst xs=>obtain⟨vs,h1,h2⟩:=h;rw[h1];simp
 | dct kvs=>obtain⟨vs,h1,h2⟩:=h;rw[h1];simp
 | dck kvs=>obtain⟨vs,h1,h2⟩:=h;rw[h1];simp
 | fdc kvs=>obtain⟨ob,vs,h1,h2⟩:=h;rw[h1];simp
 | ins cn fs=>obtain⟨C,dx,ws,h1,h2,h3⟩:=h;rw[h1];simp
theorem GRel.fresh (g:GRel K H G) (h:H a=none):G a=none:=by
 cases e:G a with
 | none=>rfl
 | some o=>exact absurd h (g a o e).some
def Soft (o:Option HO):Prop:=o=none\/(∃xs,o=some (.lst xs))\/(∃kvs,o=some (.dK kvs))\/(∃kvs,o=some (.dT kvs))\/∃C dx fs,o=some (.ins C dx fs)
theorem Ext.upd {o:HO} (h:Soft (H a)):Ext H (L2.upd H a o):=by
 refine⟨fun b xs e=> ?_,fun b ob u e=> ?_⟩
 ·rw[jJu];exact e
  rintro rfl;rw[e] at h;rcases h with h | ⟨_,h⟩ | ⟨_,h⟩ | ⟨_,h⟩ | ⟨_,_,_,h⟩<;>cases h
 ·rw[jJu];exact e
  rintro rfl;rw[e] at h;rcases h with h | ⟨_,h⟩ | ⟨_,h⟩ | ⟨_,h⟩ | ⟨_,_,_,h⟩<;>cases h
theorem GRel.upd {o:HO} {go:GO} (g:GRel K H G) (h:Soft (H a)) (n:GOk K (L2.upd H a o) a go):GRel K (L2.upd H a o) (gup G a go):=by
 intro b u e
 by_cases hb:b=a
 ·subst hb;rw[jJd] at e;cases e;exact n
 ·rw[jJm hb] at e;exact (g b u e).move (Ext.upd h) (jJu hb)
theorem Soft.none (h:H a=none):Soft (H a):= .inl h
theorem Soft.lst {xs:List V} (h:H a=some (.lst xs)):Soft (H a):= .inr (.inl ⟨xs,h⟩)
theorem Soft.dT {xs:List (TKey×V)} (h:H a=some (.dT xs)):Soft (H a):= .inr (.inr (.inr (.inl ⟨xs,h⟩)))
theorem Soft.dK {xs:List (Key×V)} (h:H a=some (.dK xs)):Soft (H a):= .inr (.inr (.inl ⟨xs,h⟩))
theorem GRel.tupNew {vs:List V} (g:GRel K H G) (h:H a=Option.none):GRel K (L2.upd H a (.tup vs)) G:=by
 intro b u e
 have hb:b≠a:=by rintro rfl;exact (g b u e).some h
 exact (g b u e).move (Ext.upd (.none h)) (jJu hb)
theorem Rep.tupNew {xs:List T} {vs:List V} (r:Reps K H xs vs) (h:H a=Option.none):Rep K (L2.upd H a (.tup vs)) (.tup xs) (.ref a):=
 ⟨a,vs,rfl,jJ3,Reps.mono (Ext.upd (.none h)) _ r⟩
theorem GRel.lstNew {xs:List T} {vs:List V} (g:GRel K H G) (r:Reps K H xs vs) (h:Soft (H a)):GRel K (L2.upd H a (.lst vs)) (gup G a (.lst xs)):=
 g.upd h ⟨vs,jJ3,Reps.mono (Ext.upd h) _ r⟩
theorem GRel.lst {xs:List T} (g:GRel K H G) (h:G a=some (.lst xs)):∃vs,H a=some (.lst vs)/\Reps K H xs vs:=g a _ h
end
abbrev St3:=List (Option T)
def SRel (K:PySem.W.Frag) (H:Hp) (σ:L2.St) (τ:St3):Prop:=σ.length=τ.length/\∀(i:Nat) (t:T),τ[i]? =some (some t)->∃v,σ[i]? =some (some v)/\Rep K H t v
theorem SRel.mono {K:PySem.W.Frag} {H H':Hp} {σ:L2.St} {τ:St3} (e:Ext H H') (h:SRel K H σ τ):SRel K H' σ τ:=
 ⟨h.1,fun i t q=>let ⟨v,h1,h2⟩:=h.2 i t q;⟨v,h1,Rep.mono e _ h2⟩⟩
theorem SRel.set {K:PySem.W.Frag} {H:Hp} {σ:L2.St} {τ:St3} {t:T} {v:V} (h:SRel K H σ τ) (i:Nat) (r:Rep K H t v):SRel K H (σ.set i (some v)) (τ.set i (some t)):=by
 refine⟨by simp[h.1],fun j u q=> ?_⟩
 by_cases hj:i=j
 ·subst hj
  have hl:i<τ.length:=by
   rcases Nat.lt_or_ge i τ.length with z | z
   ·exact z
   ·rw[List.getElem?_eq_none (by simpa using z)] at q;cases q
  rw[List.getElem?_set_self hl] at q
  cases q
  exact⟨v,by rw[List.getElem?_set_self (by rw[h.1];exact hl)],r⟩
 ·rw[List.getElem?_set_ne hj] at q ⊢
  exact h.2 j u q
def Inv3 (X:Cx) (pins:List (Addr×Obj)) (τ:St3) (G:Gp) (H:Hp) (s:Shared):Prop:=∃ σ,Inv X pins σ H s/\SRel X.K H σ τ/\GRel X.K H G
abbrev VK3:=T->Gp->Prop
abbrev TE3:=St3->Gp->VK3->Prop
abbrev TT3:=St3->Gp->(Bool->Gp->Prop)->Prop
abbrev TA3:=St3->Gp->(List T->Gp->Prop)->Prop
structure Ends3 where
 nx:St3->Gp->Prop
 rt:VK3
 bk:St3->Gp->Prop:=fun _ _=>False
 ct:St3->Gp->Prop:=fun _ _=>False
abbrev TS3:=Ends3->St3->Gp->Prop
def RU (K:PySem.W.Frag) (H:Hp) (t:T) (u:Value):Prop:=∃v,Rep K H t v/\RelV v u
def RUs (K:PySem.W.Frag) (H:Hp) (ts:List T) (us:List Value):Prop:=∃vs,Reps K H ts vs/\Vals vs us
theorem RU.mono {K:PySem.W.Frag} {H H':Hp} {t:T} {u:Value} (e:Ext H H') (h:RU K H t u):RU K H' t u:=let ⟨v,h1,h2⟩:=h;⟨v,Rep.mono e _ h1,h2⟩
def EP3 (X:Cx) (pins:List (Addr×Obj)) (τ:St3) (H:Hp) (Q:VK3) (u:Value) (s':Shared):Prop:=∃t G' H',Ext H H'/\Inv3 X pins τ G' H' s'/\RU X.K H' t u/\Q t G'
def TP3 (X:Cx) (pins:List (Addr×Obj)) (τ:St3) (H:Hp) (Q:Bool->Gp->Prop) (b:Bool) (s':Shared):Prop:=∃G' H',Ext H H'/\Inv3 X pins τ G' H' s'/\Q b G'
def AP3 (X:Cx) (pins:List (Addr×Obj)) (τ:St3) (H:Hp) (Q:List T->Gp->Prop) (us:List Value) (s':Shared):Prop:=∃ts G' H',Ext H H'/\Inv3 X pins τ G' H' s'/\RUs X.K H' ts us/\Q ts G'
noncomputable def SP3 (X:Cx) (pins:List (Addr×Obj)) (H:Hp) (D:Ends3) (f:Flow) (s':Shared):Prop:=
 match f with
 | .next=>∃ τ' G' H',Ext H H'/\Inv3 X pins τ' G' H' s'/\D.nx τ' G'
 | .brk=>∃ τ' G' H',Ext H H'/\Inv3 X pins τ' G' H' s'/\D.bk τ' G'
 | .cont=>∃ τ' G' H',Ext H H'/\Inv3 X pins τ' G' H' s'/\D.ct τ' G'
 | .ret u=>∃t τ' G' H',Ext H H'/\Inv3 X pins τ' G' H' s'/\RU X.K H' t u/\D.rt t G'
noncomputable def PE3 (X:Cx) (e:Expr) (t:TE3):Prop:=∀(pins:List (Addr×Obj)) (s:Shared) (τ:St3) (G:Gp) (H:Hp) (Q:VK3),Inv3 X pins τ G H s->t τ G Q->wpAny (model X.prog X.w) X.A (eval e X.env) (EP3 X pins τ H Q) X.xe s
noncomputable def PT3 (X:Cx) (e:Expr) (t:TT3):Prop:=∀(pins:List (Addr×Obj)) (s:Shared) (τ:St3) (G:Gp) (H:Hp) (Q:Bool->Gp->Prop),Inv3 X pins τ G H s->t τ G Q->wpAny (model X.prog X.w) X.A (isTrue e X.env (eval e X.env)) (TP3 X pins τ H Q) X.xe s
noncomputable def PW3 (X:Cx) (e:Expr) (t:TT3):Prop:=∀(whole:Sem Value) (pins:List (Addr×Obj)) (s:Shared) (τ:St3) (G:Gp) (H:Hp) (Q:Bool->Gp->Prop),Inv3 X pins τ G H s->t τ G Q->wpAny (model X.prog X.w) X.A (isTrue e X.env whole) (TP3 X pins τ H Q) X.xe s
theorem PW3.pt {X:Cx} {e:Expr} {t:TT3} (h:PW3 X e t):PT3 X e t:=h _
noncomputable def PA3 (X:Cx) (es:List Expr) (t:TA3):Prop:=∀(pos:Pos) (pins:List (Addr×Obj)) (s:Shared) (τ:St3) (G:Gp) (H:Hp) (Q:List T->Gp->Prop),Inv3 X pins τ G H s->t τ G Q->wpAny (model X.prog X.w) X.A (spliced (backTo pos (starEach es X.env))) (AP3 X pins τ H Q) X.xe s
noncomputable def PS3 (X:Cx) (st:Stmt) (t:TS3):Prop:=∀(pins:List (Addr×Obj)) (s:Shared) (τ:St3) (G:Gp) (H:Hp) (D:Ends3),Inv3 X pins τ G H s->t D τ G->wpAny (model X.prog X.w) X.A (exec st X.env) (SP3 X pins H D) X.xe s
noncomputable def PSs3 (X:Cx) (st:List Stmt) (t:TS3):Prop:=∀(pins:List (Addr×Obj)) (s:Shared) (τ:St3) (G:Gp) (H:Hp) (D:Ends3),Inv3 X pins τ G H s->t D τ G->wpAny (model X.prog X.w) X.A (execs st X.env) (SP3 X pins H D) X.xe s
section
variable {X:Cx} {pins:List (Addr×Obj)} {τ:St3} {G:Gp} {H H1:Hp} {s:Shared} {C:Prop}
theorem EP3.el {Q:VK3} {u:Value} (h:EP3 X pins τ H Q u s) (k:∀t G' H',Ext H H'->Inv3 X pins τ G' H' s->RU X.K H' t u->Q t G'->C):C:=let ⟨t,G',H',a,b,c,d⟩:=h;k t G' H' a b c d
theorem AP3.el {Q:List T->Gp->Prop} {u:List Value} (h:AP3 X pins τ H Q u s) (k:∀t G' H',Ext H H'->Inv3 X pins τ G' H' s->RUs X.K H' t u->Q t G'->C):C:=let ⟨t,G',H',a,b,c,d⟩:=h;k t G' H' a b c d
theorem TP3.el {Q:Bool->Gp->Prop} {u:Bool} (h:TP3 X pins τ H Q u s) (k:∀G' H',Ext H H'->Inv3 X pins τ G' H' s->Q u G'->C):C:=let ⟨G',H',a,b,c⟩:=h;k G' H' a b c
theorem Inv3.el (h:Inv3 X pins τ G H s) (k:∀ σ,Inv X pins σ H s->SRel X.K H σ τ->GRel X.K H G->C):C:=let ⟨σ,a,b,c⟩:=h;k σ a b c
theorem RU.el {K:PySem.W.Frag} {t:T} {u:Value} (h:RU K H t u) (k:∀v,Rep K H t v->RelV v u->C):C:=let ⟨v,a,b⟩:=h;k v a b
theorem RUs.el {K:PySem.W.Frag} {t:List T} {u:List Value} (h:RUs K H t u) (k:∀v,Reps K H t v->Vals v u->C):C:=let ⟨v,a,b⟩:=h;k v a b
end
section
variable {X:Cx} {pins:List (Addr×Obj)} {τ:St3} {G:Gp} {H H1:Hp} {s:Shared}
theorem EP3.ext {Q:VK3} {u:Value} (e:Ext H H1) (h:EP3 X pins τ H1 Q u s):EP3 X pins τ H Q u s:=let ⟨t,G',H',a,b⟩:=h;⟨t,G',H',e.trans a,b⟩
theorem TP3.ext {Q:Bool->Gp->Prop} {u:Bool} (e:Ext H H1) (h:TP3 X pins τ H1 Q u s):TP3 X pins τ H Q u s:=let ⟨G',H',a,b⟩:=h;⟨G',H',e.trans a,b⟩
theorem SP3.ext {D:Ends3} {f:Flow} (e:Ext H H1) (h:SP3 X pins H1 D f s):SP3 X pins H D f s:=by
 cases f with
 | next=>obtain⟨τ',G',H',a,b⟩:=h;exact⟨τ',G',H',e.trans a,b⟩
 | brk=>obtain⟨τ',G',H',a,b⟩:=h;exact⟨τ',G',H',e.trans a,b⟩
 | cont=>obtain⟨τ',G',H',a,b⟩:=h;exact⟨τ',G',H',e.trans a,b⟩
 | ret u=>obtain⟨t,τ',G',H',a,b⟩:=h;exact⟨t,τ',G',H',e.trans a,b⟩
theorem bin3 {a b:Expr} {ta tb:TE3} (ha:PE3 X a ta) (hb:PE3 X b tb) {R:T->T->Gp->Prop} (I:Inv3 X pins τ G H s) (h:ta τ G fun x G1=>tb τ G1 fun y G2=>R x y G2)
  {α:Type} {Q:α->Shared->Prop} {f:Value->Value->Sem α}
  (hf:∀v u s2 x y G2 H2,Ext H H2->Inv3 X pins τ G2 H2 s2->RU X.K H2 x v->RU X.K H2 y u->R x y G2->wpAny (model X.prog X.w) X.A (f v u) Q X.xe s2):
  wpAny (model X.prog X.w) X.A (eval a X.env) (fun v s₁=>wpAny (model X.prog X.w) X.A (eval b X.env) (fun u s₂=>wpAny (model X.prog X.w) X.A (f v u) Q X.xe s₂) X.xe s₁) X.xe s:=by
 refine thn (ha pins s τ G H _ I h) fun v s1 w_=>w_.el fun x G1 H1 e1 I1 r1 q1=> ?_
 refine thn (hb pins s1 τ G1 H1 _ I1 q1) fun u s2 w_=>w_.el fun y G2 H2 e2 I2 r2 q2=> ?_
 exact hf v u s2 x y G2 H2 (e1.trans e2) I2 (r1.mono e2) r2 q2
def up (K:PySem.W.Frag) (H:Hp) (Q:VK3):VK:=fun v H'=>∃t G',Ext H H'/\GRel K H' G'/\Rep K H' t v/\Q t G'
theorem jVo {σ:L2.St} {Q:VK3} {u:Value} (hs:SRel X.K H σ τ) (h:EP X pins σ (up X.K H Q) u s):EP3 X pins τ H Q u s:=
 let ⟨v,H',I',r',t,G',e,g',rt,q⟩:=h
 ⟨t,G',H',e,⟨σ,I',hs.mono e,g'⟩,⟨v,rt,r'⟩,q⟩
end
section
variable {X:Cx} {pos:Pos}
def tVar (i:Nat):TE3:=fun τ G Q=>∃t,τ[i]? =some (some t)/\Q t G
def tC (t:T):TE3:=fun _ G Q=>Q t G
theorem jJb (i:Nat) {x:Str} (hN:X.N[i]? =some x:=by rfl) (hv:Vis X.env.scope x:=by first | exact Or.inl rfl | exact Or.inr (Or.inl rfl) | exact Or.inr (Or.inr rfl))
  (hd:(x == ("__debug__":Str))=false:=by decide) (hcd:(x == ("__classdict__":Str))=false:=by decide):PE3 X (.Name x pos) (tVar i):=by
 rintro pins s τ G H Q ⟨σ,I,hs,hg⟩ ⟨t,e,q⟩
 obtain⟨v,ev,rv⟩:=hs.2 i t e
 exact thn (pe_var hN hv hd hcd pins s σ H (up X.K H Q) I ⟨v,ev,t,G,.refl H,hg,rv,q⟩) fun u s' h=>jVo hs h
theorem jJl {i j}:PE3 X (.Constant (.int i) j pos) (tC (.int i)):=fun pins s τ G H Q ⟨σ,I,hs,hg⟩ q=>
 thn (pe_int pins s σ H (up X.K H Q) I ⟨.int i,G,.refl H,hg,rfl,q⟩) fun u s' h=>jVo hs h
theorem e_bl {b j}:PE3 X (.Constant (.bool b) j pos) (tC (.bl b)):=fun pins s τ G H Q ⟨σ,I,hs,hg⟩ q=>
 thn (pe_bl pins s σ H (up X.K H Q) I ⟨.bl b,G,.refl H,hg,rfl,q⟩) fun u s' h=>jVo hs h
theorem e_non {j}:PE3 X (.Constant .none j pos) (tC .non):=fun pins s τ G H Q ⟨σ,I,hs,hg⟩ q=>
 thn (pe_non pins s σ H (up X.K H Q) I ⟨.non,G,.refl H,hg,rfl,q⟩) fun u s' h=>jVo hs h
end
abbrev R3:=T->T->Gp->VK3->Prop
noncomputable def Op3 (X:Cx) (f:Value->Value->Sem Value) (r:R3):Prop:=
 ∀(pins:List (Addr×Obj)) (s:Shared) (τ:St3) (G:Gp) (H:Hp) (x y:T) (v u:Value) (Q:VK3),Inv3 X pins τ G H s->RU X.K H x v->RU X.K H y u->r x y G Q->wpAny (model X.prog X.w) X.A (f v u) (EP3 X pins τ H Q) X.xe s
noncomputable def Call3 (X:Cx) (f:Value) (r:List T->Gp->VK3->Prop):Prop:=
 ∀(pins:List (Addr×Obj)) (s:Shared) (τ:St3) (G:Gp) (H:Hp) (xs:List T) (us:List Value) (Q:VK3),Inv3 X pins τ G H s->RUs X.K H xs us->r xs G Q->wpAny (model X.prog X.w) X.A (call f us) (EP3 X pins τ H Q) X.xe s
noncomputable def Mt3 (X:Cx) (id:String) (r:T->List T->Gp->VK3->Prop):Prop:=
 ∀(pins:List (Addr×Obj)) (s:Shared) (τ:St3) (G:Gp) (H:Hp) (x:T) (xs:List T) (v:Value) (us:List Value) (Q:VK3),Inv3 X pins τ G H s->RU X.K H x v->RUs X.K H xs us->r x xs G Q->
  wpAny (model X.prog X.w) X.A (call (.builtin id) (v::us)) (EP3 X pins τ H Q) X.xe s
noncomputable def Ix3 (X:Cx) (r:R3):Prop:=
 ∀(value slice:Expr) (pins:List (Addr×Obj)) (s:Shared) (τ:St3) (G:Gp) (H:Hp) (x y:T) (v u:Value) (Q:VK3),Inv3 X pins τ G H s->RU X.K H x v->RU X.K H y u->r x y G Q->
  subscripted slice false v u=operate [v,u] (getItem v u)->wpAny (model X.prog X.w) X.A (subscriptTail value slice v u) (EP3 X pins τ H Q) X.xe s
noncomputable def Set3 (X:Cx) (r:T->T->T->Gp->(Gp->Prop)->Prop):Prop:=
 ∀(pins:List (Addr×Obj)) (s:Shared) (τ:St3) (G:Gp) (H:Hp) (o i v:T) (ov iv u:Value) (Q:Gp->Prop),Inv3 X pins τ G H s->RU X.K H o ov->RU X.K H i iv->RU X.K H v u->r o i v G Q->
  wpAny (model X.prog X.w) X.A (setItem ov iv u) (fun _ s'=>∃G' H',Ext H H'/\Inv3 X pins τ G' H' s'/\Q G') X.xe s
noncomputable def Tru3 (X:Cx) (r:T->Gp->(Bool->Gp->Prop)->Prop):Prop:=
 ∀(pins:List (Addr×Obj)) (s:Shared) (τ:St3) (G:Gp) (H:Hp) (x:T) (v:Value) (Q:Bool->Gp->Prop),Inv3 X pins τ G H s->RU X.K H x v->r x G Q->wpAny (model X.prog X.w) X.A (truthy v) (TP3 X pins τ H Q) X.xe s
section
variable {X:Cx}
theorem Op3.of {f:Value->Value->Sem Value} {r:R2} {r3:R3} (h:OpR X f r)
  (hr:∀H G x y a b Q,GRel X.K H G->Rep X.K H x a->Rep X.K H y b->r3 x y G Q->r a b H (up X.K H Q)):Op3 X f r3:=by
 rintro pins s τ G H x y v u Q ⟨σ,I,hs,hg⟩ ⟨a,ra,rv⟩ ⟨b,rb,ru⟩ q
 exact thn (h pins s σ H a b v u _ I rv ru (hr H G x y a b Q hg ra rb q)) fun u s' h=>jVo hs h
theorem Call3.of {f:Value} {r:List V->Hp->VK->Prop} {r3:List T->Gp->VK3->Prop} (h:kKy X f r)
  (hr:∀H G xs as Q,GRel X.K H G->Reps X.K H xs as->r3 xs G Q->r as H (up X.K H Q)):Call3 X f r3:=by
 rintro pins s τ G H xs us Q ⟨σ,I,hs,hg⟩ ⟨as,ra,rv⟩ q
 exact thn (h pins s σ H as us _ I rv (hr H G xs as Q hg ra q)) fun u s' h=>jVo hs h
theorem Mt3.of {id:String} {r:V->List V->Hp->VK->Prop} {r3:T->List T->Gp->VK3->Prop} (h:MtR X id r)
  (hr:∀H G x xs a as Q,GRel X.K H G->Rep X.K H x a->Reps X.K H xs as->r3 x xs G Q->r a as H (up X.K H Q)):Mt3 X id r3:=by
 rintro pins s τ G H x xs v us Q ⟨σ,I,hs,hg⟩ ⟨a,ra,rv⟩ ⟨as,ras,rvs⟩ q
 exact thn (h pins s σ H a as v us _ I rv rvs (hr H G x xs a as Q hg ra ras q)) fun u s' h=>jVo hs h
theorem Ix3.of {r:R2} {r3:R3} (h:IxR X r)
  (hr:∀H G x y a b Q,GRel X.K H G->Rep X.K H x a->Rep X.K H y b->r3 x y G Q->r a b H (up X.K H Q)):Ix3 X r3:=by
 rintro value slice pins s τ G H x y v u Q ⟨σ,I,hs,hg⟩ ⟨a,ra,rv⟩ ⟨b,rb,ru⟩ q hh
 exact thn (h value slice pins s σ H a b v u _ I rv ru (hr H G x y a b Q hg ra rb q) hh) fun u s' h=>jVo hs h
theorem Set3.of {t:TSet} {r3:T->T->T->Gp->(Gp->Prop)->Prop} (h:PSet X t)
  (hr:∀H G o i v a b c Q,GRel X.K H G->Rep X.K H o a->Rep X.K H i b->Rep X.K H v c->r3 o i v G Q->t a b c H (fun H'=>∃G',Ext H H'/\GRel X.K H' G'/\Q G')):Set3 X r3:=by
 rintro pins s τ G H o i v ov iv u Q ⟨σ,I,hs,hg⟩ ⟨a,ra,rv⟩ ⟨b,rb,ru⟩ ⟨c,rc,rw'⟩ q
 exact thn (h pins s σ H a b c ov iv u _ I rv ru rw' (hr H G o i v a b c Q hg ra rb rc q)) fun _ s' ⟨H',I',G',e,g',q'⟩=>⟨G',H',e,⟨σ,I',hs.mono e,g'⟩,q'⟩
theorem Tru3.of {r:V->Hp->(Bool->Hp->Prop)->Prop} {r3:T->Gp->(Bool->Gp->Prop)->Prop} (h:TruR X r)
  (hr:∀H G x a Q,GRel X.K H G->Rep X.K H x a->r3 x G Q->r a H (fun b H'=>H'=H/\Q b G)):Tru3 X r3:=by
 rintro pins s τ G H x v Q ⟨σ,I,hs,hg⟩ ⟨a,ra,rv⟩ q
 exact thn (h pins s σ H a v _ I rv (hr H G x a Q hg ra q)) fun b s' ⟨H',I',e,q'⟩=>by
  subst e;exact⟨G,H',.refl _,⟨σ,I',hs,hg⟩,q'⟩
theorem Op3.or {f:Value->Value->Sem Value} {r r':R3} (h:Op3 X f r) (h':Op3 X f r'):Op3 X f (fun x y G Q=>r x y G Q\/r' x y G Q):=by
 intro pins s τ G H x y v u Q I rx ry q
 rcases q with q | q
 ·exact h pins s τ G H x y v u Q I rx ry q
 ·exact h' pins s τ G H x y v u Q I rx ry q
def rI (C:Int->Int->Prop) (g:Int->Int->T):R3:=fun x y G Q=>∃i j,x= .int i/\y= .int j/\C i j/\Q (g i j) G
def rI0 (g:Int->Int->T):R3:=fun x y G Q=>∃i j,x= .int i/\y= .int j/\Q (g i j) G
theorem o_I {f:Value->Value->Sem Value} {C:Int->Int->Prop} {g:Int->Int->V} {g':Int->Int->T} (h:OpR X f (L2.rI C g)) (hg':∀K H i j,Rep K H (g' i j) (g i j)):Op3 X f (rI C g'):=
 Op3.of h fun H G x y a b Q hg ra rb ⟨i,j,ex,ey,c,q⟩=>by
  subst ex;subst ey
  cases (show a= .int i from ra);cases (show b= .int j from rb)
  exact⟨i,j,rfl,rfl,c,g' i j,G,.refl H,hg,hg' _ _ i j,q⟩
theorem o_I0 {f:Value->Value->Sem Value} {g:Int->Int->V} {g':Int->Int->T} (h:OpR X f (L2.rI0 g)) (hg':∀K H i j,Rep K H (g' i j) (g i j)):Op3 X f (rI0 g'):=
 Op3.of h fun H G x y a b Q hg ra rb ⟨i,j,ex,ey,q⟩=>by
  subst ex;subst ey
  cases (show a= .int i from ra);cases (show b= .int j from rb)
  exact⟨i,j,rfl,rfl,g' i j,G,.refl H,hg,hg' _ _ i j,q⟩
theorem o_add:Op3 X (binaryOp .Add) (rI0 fun i j=> .int (i+j)):=o_I0 op_add fun _ _ _ _=>rfl
theorem o_mul:Op3 X (binaryOp .Mult) (rI CMul fun i j=> .int (i*j)):=o_I op_mul fun _ _ _ _=>rfl
theorem qKs:Op3 X (binaryOp .FloorDiv) (rI CDiv fun i j=> .int (i / j)):=o_I qQr fun _ _ _ _=>rfl
theorem jYh:Op3 X (binaryOp .Mod) (rI (fun _ j=>0<j) fun i j=> .int (i%j)):=o_I op_mod fun _ _ _ _=>rfl
theorem o_pow:Op3 X (binaryOp .Pow) (rI CPow fun i j=> .int (i^j.toNat)):=o_I op_pow fun _ _ _ _=>rfl
theorem o_lt:Op3 X (compareOp .Lt) (rI0 fun i j=> .bl (decide (i<j))):=o_I0 op_lt fun _ _ _ _=>rfl
theorem o_le:Op3 X (compareOp .LtE) (rI0 fun i j=> .bl (decide (i<=j))):=o_I0 op_le fun _ _ _ _=>rfl
theorem o_gt:Op3 X (compareOp .Gt) (rI0 fun i j=> .bl (decide (j<i))):=o_I0 op_gt fun _ _ _ _=>rfl
theorem o_ge:Op3 X (compareOp .GtE) (rI0 fun i j=> .bl (decide (j<=i))):=o_I0 op_ge fun _ _ _ _=>rfl
def kVq:T->Bool
 | .non=>true
 | _=>false
theorem Rep.non_iff {K:PySem.W.Frag} {H:Hp} {x:T} {a:V} (r:Rep K H x a):decide (a= .non)=kVq x:=by
 cases x with
 | non=>cases (show a= .non from r);rfl
 | bl b=>cases (show a= .bl b from r);rfl
 | int b=>cases (show a= .int b from r);rfl
 | str b=>cases (show a= .str b from r);rfl
 | ref b=>cases (show a= .ref b from r);rfl
 | ty b=>cases (show a= .ty b from r);rfl
 | tup b=>obtain⟨_,_,e,_⟩:=(show ∃c vs,a= .ref c/\_ from r);subst e;rfl
 | scr b=>obtain⟨_,_,e,_⟩:=(show ∃c vs,a= .ref c/\_ from r);subst e;rfl
theorem o_isN:Op3 X (compareOp .Is) (fun x y G Q=>y= .non/\Q (.bl (kVq x)) G):=
 Op3.of op_isN fun H G x y a b Q hg ra rb ⟨ey,q⟩=>by
  subst ey;cases (show b= .non from rb)
  exact⟨rfl,.bl (kVq x),G,.refl H,hg,by rw[ra.non_iff];rfl,q⟩
end
def tOp (r:R3) (ta tb:TE3):TE3:=fun τ G Q=>ta τ G fun x G1=>tb τ G1 fun y G2=>r x y G2 Q
def tUn (r:T->Gp->VK3->Prop) (ta:TE3):TE3:=fun τ G Q=>ta τ G fun x G1=>r x G1 Q
def jJ9 (t:TE3):TT3:=fun τ G Q=>t τ G fun x G1=>∃c,x= .bl c/\Q c G1
def tAnd (t u:TT3):TT3:=fun τ G Q=>t τ G fun c G1=>if c=true then u τ G1 Q else Q false G1
def tOr (t u:TT3):TT3:=fun τ G Q=>t τ G fun c G1=>if c=true then Q true G1 else u τ G1 Q
def tNot (t:TT3):TT3:=fun τ G Q=>t τ G fun c G1=>Q (!c) G1
def jVz (ta tb:TE3):TE3:=fun τ G Q=>ta τ G fun x G1=>∃c,x= .bl c/\if c=true then tb τ G1 Q else Q (.bl false) G1
def tOrV (ta tb:TE3):TE3:=fun τ G Q=>ta τ G fun x G1=>∃c,x= .bl c/\if c=true then Q (.bl true) G1 else tb τ G1 Q
def qQb (ta:TE3):TE3:=fun τ G Q=>ta τ G fun x G1=>∃c,x= .bl c/\Q (.bl (!c)) G1
def tIf (t:TT3) (ta tb:TE3):TE3:=fun τ G Q=>t τ G fun c G1=>if c=true then ta τ G1 Q else tb τ G1 Q
noncomputable def jZi (r r':R3) (ta tb tc:TE3):TE3:=fun τ G Q=>ta τ G fun x G1=>tb τ G1 fun y G2=>r x y G2 fun z G3=>∃k,z= .bl k/\if k=true then tc τ G3 (fun w G4=>r' y w G4 Q) else Q (.bl false) G3
def tNil:TA3:=fun _ G Q=>Q [] G
def jJc (ta:TE3) (tr:TA3):TA3:=fun τ G Q=>ta τ G fun x G1=>tr τ G1 fun xs G2=>Q (x::xs) G2
def tTup (t:TA3):TE3:=fun τ G Q=>t τ G fun xs G1=>xs.length<=sizeLine/\Q (.tup xs) G1
def tLst (t:TA3):TE3:=fun τ G Q=>t τ G fun xs G1=>xs.length<=sizeLine/\∀p,G1 p=none->Q (.ref p) (gup G1 p (.lst xs))
def tCB (r:List T->Gp->VK3->Prop) (t:TA3):TE3:=fun τ G Q=>t τ G fun xs G1=>r xs G1 Q
section
variable {X:Cx} {a b c:Expr} {ta tb tc:TE3} {tA tB:TT3} {pos:Pos} {rest es:List Expr} {t:TA3}
theorem e_op {op:Operator} {r:R3} (ho:Op3 X (binaryOp op) r) (ha:PE3 X a ta) (hb:PE3 X b tb):PE3 X (.BinOp a op b pos) (tOp r ta tb):=by
 intro pins s τ G H Q I h
 exact wpAny_BinOp (bin3 ha hb I h fun v u s2 x y G2 H2 e I2 rx ry q=>thn (ho pins s2 τ G2 H2 x y v u Q I2 rx ry q) fun _ _ z=>z.ext e)
theorem kKe {op:CmpOp} {r:R3} (ho:Op3 X (compareOp op) r) (ha:PE3 X a ta) (hb:PE3 X b tb) (hm:behindInMarks op b=false):PE3 X (.Compare a [op] [b] pos) (tOp r ta tb):=by
 intro pins s τ G H Q I h
 exact wpAny_Compare1 (bin3 ha hb I h fun v u s2 x y G2 H2 e I2 rx ry q=>thn (ho pins s2 τ G2 H2 x y v u Q I2 rx ry q) fun _ _ z=>z.ext e) hm
theorem jUj {op:CmpOp} {r:R3} (ho:Op3 X (compareOp op) r) (ha:PE3 X a ta) (hb:PE3 X b tb) (hm:behindInMarks op b=false):PT3 X (.Compare a [op] [b] pos) (jJ9 (tOp r ta tb)):=by
 intro pins s τ G H Q I h
 refine wpAny_isTrue_Compare1 (bin3 ha hb I h fun v u s2 x y G2 H2 e I2 rx ry q=>thn (ho pins s2 τ G2 H2 x y v u _ I2 rx ry q) fun w' s3 w_=>w_.el fun z G3 H3 e3 I3 r3 ⟨k,ez,q3⟩=> ?_) hm
 subst ez
 obtain⟨v',rv',ru'⟩:=r3
 cases (show v'= .bl k from rv');cases ru'
 exact wpAny_truthy_bool ⟨G3,H3,e.trans e3,I3,q3⟩
theorem jY5 {e:Expr} {t:TE3} (h:PE3 X e t) (he:∀whole,isTrue e X.env whole=(do let v <-whole;standAt e.pos;holding [v] (truthy v)):=by intro _;rfl):PT3 X e (jJ9 t):=by
 intro pins s τ G H Q I hw
 refine isTrue_plain (thn (h pins s τ G H _ I hw) fun v s1 w_=>w_.el fun x G1 H1 e1 I1 r1 ⟨k,ez,q1⟩=> ?_) (he _)
 subst ez
 obtain⟨v',rv',ru'⟩:=r1
 cases (show v'= .bl k from rv');cases ru'
 exact wpAny_truthy_bool ⟨G1,H1,e1,I1,q1⟩
def tTru (r:T->Gp->(Bool->Gp->Prop)->Prop) (t:TE3):TT3:=fun τ G Q=>t τ G fun x G1=>r x G1 Q
theorem t_tru {e:Expr} {t:TE3} {r:T->Gp->(Bool->Gp->Prop)->Prop} (hr:Tru3 X r) (h:PE3 X e t) (he:∀whole,isTrue e X.env whole=(do let v <-whole;standAt e.pos;holding [v] (truthy v)):=by intro _;rfl):PT3 X e (tTru r t):=by
 intro pins s τ G H Q I hw
 exact isTrue_plain (thn (h pins s τ G H _ I hw) fun v s1 w_=>w_.el fun x G1 H1 e1 I1 r1 q1=>thn (hr pins s1 τ G1 H1 x v Q I1 r1 q1) fun _ _ z=>z.ext e1) (he _)
theorem kZp (ha:PT3 X a tA):PW3 X (.BoolOp .Or [a] pos) tA:=by
 intro wh pins s τ G H Q I h
 refine isTrue_or (thn (ha pins s τ G H Q I h) fun c s1 e=> ?_)
 cases c with
 | false=>exact isTrue_or_nil e
 | true=>exact e
theorem w_or (ha:PT3 X a tA) (hb:PW3 X (.BoolOp .Or (b::rest) pos) tB):PW3 X (.BoolOp .Or (a::b::rest) pos) (tOr tA tB):=by
 intro wh pins s τ G H Q I h
 refine isTrue_or (thn (ha pins s τ G H _ I h) fun c s1 w_=>w_.el fun G1 H1 e1 I1 q1=> ?_)
 cases c with
 | true=>exact⟨G1,H1,e1,I1,q1⟩
 | false=>exact thn (hb wh pins s1 τ G1 H1 Q I1 q1) fun _ _ z=>z.ext e1
theorem kJu (ha:PT3 X a tA):PT3 X (.UnaryOp .Not a pos) (tNot tA):=by
 intro pins s τ G H Q I h
 exact isTrue_not (thn (ha pins s τ G H (fun c G1=>Q (!c) G1) I h) fun c s1 w_=>w_.el fun G1 H1 e1 I1 q1=>⟨G1,H1,e1,I1,q1⟩)
theorem kKd {op} {t:TE3} (h:PE3 X a t):PE3 X (.BoolOp op [a] pos) t:=fun pins s τ G H Q I hw=>BoolOp_one (h pins s τ G H Q I hw)
theorem jYu (ha:PE3 X a ta) (hb:PE3 X (.BoolOp .And (b::rest) pos) tb):PE3 X (.BoolOp .And (a::b::rest) pos) (jVz ta tb):=by
 intro pins s τ G H Q I h
 refine BoolOp_and (thn (ha pins s τ G H _ I h) fun v s1 w_=>w_.el fun x G1 H1 e1 I1 r1 ⟨k,ez,q1⟩=> ?_)
 subst ez
 obtain⟨v',rv',ru'⟩:=r1
 cases (show v'= .bl k from rv');cases ru'
 refine wpAny_truthy_bool ?_
 cases k with
 | true=>exact thn (hb pins s1 τ G1 H1 Q I1 q1) fun _ _ z=>z.ext e1
 | false=>exact⟨.bl false,G1,H1,e1,I1,⟨.bl false,rfl,rfl⟩,q1⟩
theorem e_not (ha:PE3 X a ta):PE3 X (.UnaryOp .Not a pos) (qQb ta):=by
 intro pins s τ G H Q I h
 refine UnaryOp_ (thn (ha pins s τ G H _ I h) fun v s1 w_=>w_.el fun x G1 H1 e1 I1 r1 ⟨k,ez,q1⟩=> ?_)
 subst ez
 obtain⟨v',rv',ru'⟩:=r1
 cases (show v'= .bl k from rv');cases ru'
 exact not_of (wpAny_truthy_bool ⟨.bl (!k),G1,H1,e1,I1,⟨.bl (!k),rfl,rfl⟩,q1⟩)
theorem kY2 (hc:PT3 X c tA) (ha:PE3 X a ta) (hb:PE3 X b tb):PE3 X (.IfExp c a b pos) (tIf tA ta tb):=by
 intro pins s τ G H Q I h
 refine IfExp_ (thn (hc pins s τ G H _ I h) fun k s1 w_=>w_.el fun G1 H1 e1 I1 q1=> ?_)
 cases k with
 | true=>exact thn (ha pins s1 τ G1 H1 Q I1 q1) fun _ _ z=>z.ext e1
 | false=>exact thn (hb pins s1 τ G1 H1 Q I1 q1) fun _ _ z=>z.ext e1
theorem jJe:PA3 X [] tNil:=fun _ _ _ _ G H Q I h=>Calls.spliced_nil ⟨[],G,H,.refl H,I,⟨[],rfl,.nil⟩,h⟩
theorem jJa {e:Expr} {te:TE3} (ha:PE3 X e te) (hr:PA3 X es t) (hs:starEach (e::es) X.env=(false,eval e X.env)::starEach es X.env:=by rfl):PA3 X (e::es) (jJc te t):=by
 intro pos pins s τ G H Q I h
 rw[hs]
 show wpAny _ _ (spliced ((false,eval e X.env)::backTo pos (starEach es X.env))) _ _ s
 refine Calls.spliced_cons (thn (ha pins s τ G H _ I h) fun u s1 w_=>w_.el fun x G1 H1 e1 I1 r1 q1=> ?_)
 refine thn (hr pos pins s1 τ G1 H1 _ I1 q1) fun us s2 w_=>w_.el fun xs G2 H2 e2 I2 r_ q2=>r_.el fun vs rs rv=> ?_
 obtain⟨v,rr,rvv⟩:=r1.mono e2
 exact⟨x::xs,G2,H2,e1.trans e2,I2,⟨v::vs,⟨v,vs,rfl,rr,rs⟩,.cons rvv rv⟩,q2⟩
theorem jUr {x1} (h:PA3 X es t):PE3 X (.Tuple es x1 pos) (tTup t):=by
 intro pins s τ G H Q I hq
 refine wpAny_Tuple_spliced (thn (h pos pins s τ G H _ I hq) fun us s1 w_=>w_.el fun xs G1 H1 e1 i_ r_ ⟨z,q⟩=>i_.el fun σ I1 hs1 hg1=>r_.el fun vs rs rv=>⟨by rw[<-rv.length,<-rs.length];exact z,?_⟩)
 have hf:H1 s1.heap.objs.size=none:=I1.hok.fresh (Nat.le_refl _)
 have e2:Ext H1 (upd H1 s1.heap.objs.size (.tup vs)):= .upd (.none hf)
 refine⟨.tup xs,G1,upd H1 s1.heap.objs.size (.tup vs),e1.trans e2,⟨σ,I1.laid (t':=s1.toks) (fun b u e=>Heap.get?_push_of_some _ e) (Nat.le_refl _) ?_,hs1.mono e2,hg1.tupNew hf⟩,⟨.ref s1.heap.objs.size,Rep.tupNew rs hf,rfl⟩,q⟩
 exact⟨by rw[<-rs.length];exact z,us,rv,⟨_,Heap.get?_push_size _ rfl,rfl,_,rfl,rfl⟩⟩
theorem jQ0 (h:PA3 X es t):PE3 X (.List es pos) (tLst t):=by
 intro pins s τ G H Q I hq
 refine wpAny_List_spliced (thn (h pos pins s τ G H _ I hq) fun us s1 w_=>w_.el fun xs G1 H1 e1 i_ r_ ⟨z,q⟩=>i_.el fun σ I1 hs1 hg1=>r_.el fun vs rs rv=>⟨by rw[<-rv.length,<-rs.length];exact z,?_⟩)
 have hf:H1 s1.heap.objs.size=none:=I1.hok.fresh (Nat.le_refl _)
 have e2:Ext H1 (upd H1 s1.heap.objs.size (.lst vs)):= .upd (.none hf)
 refine⟨.ref s1.heap.objs.size,gup G1 s1.heap.objs.size (.lst xs),upd H1 s1.heap.objs.size (.lst vs),e1.trans e2,⟨σ,I1.laid (t':=s1.toks) (fun b u e=>Heap.get?_push_of_some _ e) (Nat.le_refl _) ?_,hs1.mono e2,hg1.lstNew rs (.none hf)⟩,⟨.ref s1.heap.objs.size,rfl,rfl⟩,q _ (hg1.fresh hf)⟩
 exact⟨by rw[<-rs.length];exact z,us,0,rv,Heap.get?_push_size _ rfl⟩
theorem e_ix {r:R3} (hr:Ix3 X r) (ha:PE3 X a ta) (hb:PE3 X b tb) (hs:qU5 b):PE3 X (.Subscript a b pos) (tOp r ta tb):=by
 intro pins s τ G H Q I h
 exact Subscript_ (bin3 ha hb I h fun v u s2 x y G2 H2 e I2 rx ry q=>thn (hr a b pins s2 τ G2 H2 x y v u Q I2 rx ry q (hs _ _)) fun _ _ z=>z.ext e)
def rIx:R3:=fun x y G Q=>∃xs i t,seqT G x=some xs/\y= .int i/\atI xs i=some t/\Q t G
theorem jVw {o:Option GO} {xs:List T} (h:asL o=some xs):o=some (.lst xs):=by
 cases o with
 | none=>cases h
 | some g=>cases g with
  | lst ys=>cases h;rfl
  | dct _=>cases h
  | dck _=>cases h
  | fdc _=>cases h
  | ins _ _=>cases h
theorem jQu {K:PySem.W.Frag} {H:Hp} {G:Gp} {x:T} {a:V} {xs:List T} (hg:GRel K H G) (r:Rep K H x a) (h:seqT G x=some xs):
  ∃p vs,a= .ref p/\(SqL K H p vs\/SqT K H p vs)/\Reps K H xs vs:=by
 cases x with
 | tup ys=>cases h;obtain⟨p,vs,e,h1,h2⟩:=(show ∃p vs,a= .ref p/\H p=some (.tup vs)/\Reps K H xs vs from r);exact⟨p,vs,e,.inr (.of h1),h2⟩
 | scr ys=>cases h;obtain⟨p,vs,e,h1,h2⟩:=(show ∃p vs,a= .ref p/\FrL K H p vs/\Reps K H xs vs from r);exact⟨p,vs,e,.inl h1.sq,h2⟩
 | ref p=>
  obtain⟨vs,h1,h2⟩:=hg.lst (jVw h)
  exact⟨p,vs,r,.inl (.of h1),h2⟩
 | non=>cases h
 | bl _=>cases h
 | int _=>cases h
 | str _=>cases h
 | ty _=>cases h
theorem ix_any:Ix3 X rIx:=
 Ix3.of (ix_list.or ix_tup) fun H G x y a b Q hg ra rb ⟨xs,i,t,hx,ey,ht,q⟩=>by
  subst ey;cases (show b= .int i from rb)
  obtain⟨p,vs,e,hq,r⟩:=jQu hg ra hx
  subst e
  obtain⟨v,hv,rv⟩:=r.atI ht
  rcases hq with hq | hq
  ·exact .inl ⟨p,vs,i,v,rfl,rfl,hq,hv,t,G,.refl H,hg,rv,q⟩
  ·exact .inr ⟨p,vs,i,v,rfl,rfl,hq,hv,t,G,.refl H,hg,rv,q⟩
theorem jJo {id:String} {r:List T->Gp->VK3->Prop} {x:Str} {p:Pos} {e:Expr} (hc:Call3 X (.builtin id) r) (hg:Gl X x) (hm:X.mg x=none) (hv:bootBuiltins x=some (.builtin id)) (ha:PA3 X (e::es) t) (hn:x≠"__name__":=by decide) (hdb:(x == ("__debug__":Str))=false:=by decide)
  (he:starEach (e::es) X.env=(false,eval e X.env)::starEach es X.env:=by rfl) (hpl:(backTo pos (starEach es X.env)).any (·.1)=false:=by rfl):PE3 X (.Call (.Name x p) (e::es) [] pos) (tCB r t):=by
 intro pins s τ G H Q I h
 obtain⟨σ,I0,hs0,hg0⟩:=_root_.id I
 refine wpAny_Call_Name_kw (jXh I0 hg hm hv ?_ hn hdb)
 exact PyProof.Rows.callWith_builtin1 (thn (ha pos pins s τ G H _ I h) fun us s1 w_=>w_.el fun xs G1 H1 e1 I1 r1 q1=>thn (hc pins s1 τ G1 H1 xs us Q I1 r1 q1) fun _ _ z=>z.ext e1) he hpl
theorem jKt {T0:String} {r:List T->Gp->VK3->Prop} {x:Str} {p:Pos} {e:Expr} (hc:Call3 X (.type T0) r) (hg:Gl X x) (hm:X.mg x=none) (hv:bootBuiltins x=some (.type T0)) (ha:PA3 X (e::es) t) (hn:x≠"__name__":=by decide) (hdb:(x == ("__debug__":Str))=false:=by decide)
  (he:starEach (e::es) X.env=(false,eval e X.env)::starEach es X.env:=by rfl) (hpl:(backTo pos (starEach es X.env)).any (·.1)=false:=by rfl):PE3 X (.Call (.Name x p) (e::es) [] pos) (tCB r t):=by
 intro pins s τ G H Q I h
 obtain⟨σ,I0,hs0,hg0⟩:=_root_.id I
 refine wpAny_Call_Name_kw (jXh I0 hg hm hv ?_ hn hdb)
 exact PyProof.Rows.callWith_type1 (thn (ha pos pins s τ G H _ I h) fun us s1 w_=>w_.el fun xs G1 H1 e1 I1 r1 q1=>thn (hc pins s1 τ G1 H1 xs us Q I1 r1 q1) fun _ _ z=>z.ext e1) he hpl
theorem jUm {K:PySem.W.Frag} {H:Hp} {x:T} {vs:List V} (h:Reps K H [x] vs):∃v,vs=[v]/\Rep K H x v:=by
 obtain⟨v,ws,rfl,r,e⟩:=h;cases e;exact⟨v,rfl,r⟩
theorem kK4 {K:PySem.W.Frag} {H:Hp} {x y:T} {vs:List V} (h:Reps K H [x,y] vs):∃v w,vs=[v,w]/\Rep K H x v/\Rep K H y w:=by
 obtain⟨v,ws,rfl,r,w,ws2,rfl,r2,e⟩:=h;cases e;exact⟨v,w,rfl,r,r2⟩
def rLen:List T->Gp->VK3->Prop:=fun xs G Q=>∃x ys,xs=[x]/\seqT G x=some ys/\Q (.int ys.length) G
theorem jYx:Call3 X (.builtin "len") rLen:=
 Call3.of kKj fun H G xs as Q hg ra ⟨x,ys,e,hx,q⟩=>by
  subst e
  obtain⟨v,rfl,rv⟩:=jUm ra
  obtain⟨p,vs,rfl,hq,r⟩:=jQu hg rv hx
  exact⟨p,vs,rfl,hq,.int ys.length,G,.refl H,hg,by rw[r.length];rfl,q⟩
def rAbs:List T->Gp->VK3->Prop:=fun xs G Q=>∃i,xs=[.int i]/\Q (.int (if i<0 then -i else i)) G
theorem c_abs:Call3 X (.builtin "abs") rAbs:=
 Call3.of qJ8 fun H G xs as Q hg ra ⟨i,e,q⟩=>by
  subst e
  obtain⟨v,rfl,rv⟩:=jUm ra
  cases (show v= .int i from rv)
  exact⟨i,rfl,.int _,G,.refl H,hg,rfl,q⟩
def rMax:List T->Gp->VK3->Prop:=fun xs G Q=>∃i j,xs=[.int i,.int j]/\Q (.int (if j>i then j else i)) G
theorem c_max (hc:X.calm=true):Call3 X (.builtin "max") rMax:=
 Call3.of (kZe hc) fun H G xs as Q hg ra ⟨i,j,e,q⟩=>by
  subst e
  obtain⟨v,w,rfl,rv,rw'⟩:=kK4 ra
  cases (show v= .int i from rv);cases (show w= .int j from rw')
  exact⟨i,j,rfl,.int _,G,.refl H,hg,rfl,q⟩
def rIntOf:List T->Gp->VK3->Prop:=fun xs G Q=>∃k,xs=[.bl k]/\Q (.int (if k then 1 else 0)) G
def qQo:List T->Gp->VK3->Prop:=fun xs G Q=>∃i j,xs=[.int i,.int j]/\CDiv i j/\Q (.tup [.int (i / j),.int (i%j)]) G
def kQc:List T->Gp->VK3->Prop:=fun xs G Q=>∃x ys,xs=[x]/\seqT G x=some ys/\∀p,G p=none->Q (.ref p) (gup G p (.lst ys))
theorem c_list:Call3 X (.type "list") kQc:=
 Call3.of kKi fun H G xs as Q hg ra ⟨x,ys,e,hx,q⟩=>by
  subst e
  obtain⟨v,rfl,rv⟩:=jUm ra
  obtain⟨p,vs,rfl,hq,r⟩:=jQu hg rv hx
  exact⟨p,vs,rfl,hq,fun l hl=>⟨.ref l,_,.upd (.none hl),hg.lstNew r (.none hl),rfl,q l (hg.fresh hl)⟩⟩
def jKs:List T->Gp->VK3->Prop:=fun xs G Q=>∃x ys,xs=[x]/\seqT G x=some ys/\Q (.tup ys) G
theorem jXc:Call3 X (.type "tuple") jKs:=
 Call3.of kJp fun H G xs as Q hg ra ⟨x,ys,e,hx,q⟩=>by
  subst e
  obtain⟨v,rfl,rv⟩:=jUm ra
  obtain⟨p,vs,rfl,hq,r⟩:=jQu hg rv hx
  cases x with
  | tup zs=>
   cases hx
   obtain⟨p',vs',e',h1,h2⟩:=(show ∃p' vs',V.ref p= .ref p'/\H p'=some (.tup vs')/\Reps X.K H ys vs' from rv)
   cases e'
   exact⟨p,vs',rfl,.inr ⟨.of h1,.tup ys,G,.refl H,hg,⟨p,vs',rfl,h1,h2⟩,q⟩⟩
  | scr zs=>
   cases hx
   obtain⟨p',vs',e',h1,h2⟩:=(show ∃p' vs',V.ref p= .ref p'/\FrL X.K H p' vs'/\Reps X.K H ys vs' from rv)
   cases e'
   exact⟨p,vs',rfl,.inl ⟨h1.sq,fun l hl=>⟨.tup ys,G,.upd (.none hl),hg.tupNew hl,Rep.tupNew h2 hl,q⟩⟩⟩
  | ref p'=>
   cases (show V.ref p= .ref p' from rv)
   obtain⟨vs',h1,h2⟩:=hg.lst (jVw hx)
   exact⟨p,vs',rfl,.inl ⟨.of h1,fun l hl=>⟨.tup ys,G,.upd (.none hl),hg.tupNew hl,Rep.tupNew h2 hl,q⟩⟩⟩
  | non=>cases hx
  | bl _=>cases hx
  | int _=>cases hx
  | str _=>cases hx
  | ty _=>cases hx
noncomputable def rCat:R3:=fun x y G Q=>∃p q xs ys,x= .ref p/\y= .ref q/\G p=some (.lst xs)/\G q=some (.lst ys)/\xs.length+ys.length<=sizeLine/\∀l,G l=none->Q (.ref l) (gup G l (.lst (xs++ys)))
noncomputable def rRep:R3:=fun x y G Q=>∃p xs n,x= .ref p/\y= .int n/\G p=some (.lst xs)/\n.toNat * xs.length<=sizeLine/\n<2^62/\ -(2^62)<n/\∀l,G l=none->Q (.ref l) (gup G l (.lst (List.replicate n.toNat xs).flatten))
noncomputable def tyT (G:Gp) (T0:String) (x:T):Prop:=match x with
 | .str _=>T0="str"
 | .int _=>T0="int"
 | .ref p=>(T0="list"/\∃xs,G p=some (.lst xs))\/(T0="dict"/\((∃kvs,G p=some (.dck kvs))\/∃kvs,G p=some (.dct kvs)))
 | _=>False
theorem tyT.of {K:PySem.W.Frag} {H:Hp} {G:Gp} {T0:String} {x:T} {a:V} (hg:GRel K H G) (r:Rep K H x a) (h:tyT G T0 x):tyV K T0 a H:=by
 cases x with
 | str z=>cases (show a= .str z from r);exact h
 | int z=>cases (show a= .int z from r);exact h
 | ref p=>
  cases (show a= .ref p from r)
  rcases h with ⟨e,xs,h⟩ | ⟨e,h⟩
  ·obtain⟨vs,h1,_⟩:=hg.lst h;exact .inl ⟨e,vs,.of h1⟩
  ·refine .inr (.inr (.inl ⟨e,?_⟩))
   rcases h with ⟨kvs,h⟩ | ⟨kvs,h⟩
   ·obtain⟨ws,h1,_⟩:=hg p _ h;exact .inl ⟨ws,h1⟩
   ·obtain⟨ws,h1,_⟩:=hg p _ h;exact .inr ⟨ws,h1⟩
 | non=>exact False.elim h
 | bl _=>exact False.elim h
 | ty _=>exact False.elim h
 | tup _=>exact False.elim h
 | scr _=>exact False.elim h
def tBM (T0:String) (r:T->List T->Gp->VK3->Prop) (to:TE3) (t:TA3):TE3:=fun τ G Q=>to τ G fun x G1=>tyT G1 T0 x/\t τ G1 fun xs G2=>r x xs G2 Q
theorem e_bm {T0 id:String} {r:T->List T->Gp->VK3->Prop} {o e:Expr} {name:Str} {apos cpos:Pos} {to:TE3} (pa:PlainAttrs T0) (slot:Slot T0 name id) (hty:typeOf (.builtin id)=pure (.type "method_descriptor")) (hm:Mt3 X id r) (ho:PE3 X o to) (ha:PA3 X (e::es) t)
  (hbase:attributeBase o name X.env (eval o X.env)=eval o X.env:=by rfl)
  (hfew:((backTo cpos (starEach (e::es) X.env)).all (fun x=> !x.1)&&(backToKw cpos (keywordEach [] X.env)).all (fun x=>x.1.isSome)
   &&decide ((e::es).length+([]:List Keyword).length+(if ([]:List Keyword).isEmpty then 0 else 1)<30))=true:=by rfl)
  (hline:(apos.endLine == cpos.line)=true:=by rfl) (hs:starEach (e::es) X.env=(false,eval e X.env)::starEach es X.env:=by rfl) (hplain:(backTo cpos (starEach es X.env)).any (·.1)=false:=by rfl):
  PE3 X (.Call (.Attribute o name apos) (e::es) [] cpos) (tBM T0 r to t):=by
 intro pins s τ G H Q I h
 refine wpAny_Call_method_late hbase hfew hline rfl (thn (ho pins s τ G H _ I h) fun v s1 w_=>w_.el fun x G1 H1 e1 I1 r1 ⟨ty,q1⟩=> ?_)
 obtain⟨σ,I0,hs0,hg0⟩:=_root_.id I1
 obtain⟨a0,ra0,rv0⟩:=_root_.id r1
 obtain⟨h1,h2⟩:=tyV_is I0 rv0 (tyT.of hg0 ra0 ty)
 refine⟨T0,id,pa,slot,hty,h1,h2,?_⟩
 have hA:=ha cpos pins s1 τ G1 H1 _ I1 q1
 rw[hs] at hA ⊢
 refine Calls.callWith_builtin (by show (false||(backTo cpos (starEach es X.env)).any (·.1))=false;rw[hplain]<;>rfl) (Calls.evalArgs_plain ?_)
 exact thn hA fun us s2 w_=>w_.el fun vs G2 H2 e2 I2 r2 q2=>thn (hm pins s2 τ G2 H2 x vs v us Q I2 (r1.mono e2) r2 q2) fun _ _ z=>(z.ext e2).ext e1
def jK4:T->List T->Gp->VK3->Prop:=fun x xs G Q=>∃p ys y,x= .ref p/\xs=[y]/\G p=some (.lst ys)/\ys.length<sizeLine/\Q .non (gup G p (.lst (ys++[y])))
def kZ7:T->T->T->Gp->(Gp->Prop)->Prop:=fun o i v G Q=>∃p xs k j,o= .ref p/\i= .int k/\G p=some (.lst xs)/\ixN xs.length k=some j/\Q (gup G p (.lst (xs.set j v)))
theorem s_list:Set3 X kZ7:=
 Set3.of kZv fun H G o i v a b c Q hg ra rb rc ⟨p,xs,k,j,eo,ei,hp,hj,q⟩=>by
  subst eo;subst ei
  cases (show a= .ref p from ra);cases (show b= .int k from rb)
  obtain⟨vs,h1,h2⟩:=hg.lst hp
  exact⟨p,vs,k,j,rfl,rfl,h1,by rw[<-h2.length];exact hj,_,.upd (.lst h1),hg.lstNew (h2.set rc j) (.lst h1),q⟩
end
section
variable {X:Cx}
theorem o_cat:Op3 X (binaryOp .Add) rCat:=
 Op3.of op_cat fun H G x y a b Q hg ra rb ⟨p,q,xs,ys,ex,ey,hp,hq,hz,h⟩=>by
  subst ex;subst ey
  cases (show a= .ref p from ra);cases (show b= .ref q from rb)
  obtain⟨vs,h1,h2⟩:=hg.lst hp
  obtain⟨ws,h3,h4⟩:=hg.lst hq
  exact⟨p,q,vs,ws,rfl,rfl,h1,h3,by rw[<-h2.length,<-h4.length];exact hz,fun l hl=>⟨.ref l,_,.upd (.none hl),hg.lstNew (h2.append h4) (.none hl),rfl,h l (hg.fresh hl)⟩⟩
theorem o_rep:Op3 X (binaryOp .Mult) rRep:=
 Op3.of op_rep fun H G x y a b Q hg ra rb ⟨p,xs,n,ex,ey,hp,hz,h1,h2,h⟩=>by
  subst ex;subst ey
  cases (show a= .ref p from ra);cases (show b= .int n from rb)
  obtain⟨vs,h3,h4⟩:=hg.lst hp
  refine⟨p,n,vs,rfl,rfl,h3,by omega,by omega,by rw[<-h4.length,Nat.mul_comm];exact hz,fun l hl=>⟨.ref l,_,.upd (.none hl),hg.lstNew (h4.rep _) (.none hl),rfl,h l (hg.fresh hl)⟩⟩
theorem jQa:Mt3 X "list.append" jK4:=
 Mt3.of kX5 fun H G x xs a as Q hg ra ras ⟨p,ys,y,ex,exs,hp,hz,q⟩=>by
  subst ex;subst exs
  cases (show a= .ref p from ra)
  obtain⟨v,rfl,rv⟩:=jUm ras
  obtain⟨vs,h1,h2⟩:=hg.lst hp
  exact⟨p,vs,v,rfl,rfl,h1,by rw[<-h2.length];exact hz,.non,_,.upd (.lst h1),hg.lstNew (h2.append (.one rv)) (.lst h1),rfl,q⟩
end
def jQr:TS3:=fun D τ G=>D.nx τ G
def tSeq (t u:TS3):TS3:=fun D τ G=>t {D with nx:=u D} τ G
def jU4 (te:TE3):TS3:=fun D τ G=>te τ G fun _ G1=>D.nx τ G1
def tRet (te:TE3):TS3:=fun D τ G=>te τ G D.rt
def tRetN:TS3:=fun D _ G=>D.rt .non G
def tIfS (c:TT3) (t u:TS3):TS3:=fun D τ G=>c τ G fun b G1=>if b=true then t D τ G1 else u D τ G1
section
variable {X:Cx} {st:Stmt} {rest:List Stmt} {t u:TS3} {e:Expr} {te:TE3} {pos:Pos}
theorem jKo:PSs3 X [] jQr:=fun _ _ τ G H _ I h=>wpAny_execs_nil ⟨τ,G,H,.refl H,I,h⟩
theorem jJf (h1:PS3 X st t) (h2:PSs3 X rest u):PSs3 X (st::rest) (tSeq t u):=by
 intro pins s τ G H D I h
 refine wpAny_execs_cons (thn (h1 pins s τ G H {D with nx:=u D} I h) fun f s1 q=> ?_)
 cases f with
 | next=>
  obtain⟨τ',G',H',e',I',q⟩:=q
  exact thn (h2 pins s1 τ' G' H' D I' q) fun _ _ z=>z.ext e'
 | ret v=>exact q
 | brk=>exact q
 | cont=>exact q
theorem jJj (h1:PS3 X st t):PSs3 X [st] t:=by
 intro pins s τ G H D I h
 refine wpAny_execs_cons (thn (h1 pins s τ G H D I h) fun f s1 q=> ?_)
 cases f with
 | next=>exact wpAny_execs_nil q
 | ret v=>exact q
 | brk=>exact q
 | cont=>exact q
theorem jUl (he:PE3 X e te) (hs:swapsWith e none pos.line X.env=pure false:=by rfl):PS3 X (.Expr e pos) (jU4 te):=by
 intro pins s τ G H D I h
 obtain⟨σ,I0,hs0,hg0⟩:=id I
 exact wpAny_Expr_any (thn (he pins s τ G H _ I h) fun v s1 w_=>w_.el fun x G1 H1 e1 I1 r1 q1=>⟨τ,G1,H1,e1,I1,q1⟩) I0.quiet hs
theorem jKa (he:PE3 X e te):PS3 X (.Return (some e) pos) (tRet te):=by
 intro pins s τ G H D I h
 exact wpAny_Return_some (thn (he pins s τ G H _ I h) fun v s1 w_=>w_.el fun x G1 H1 e1 I1 r1 q1=>⟨x,τ,G1,H1,e1,I1,r1,q1⟩)
theorem s_if {c:Expr} {a b:List Stmt} {tc:TT3} (hc:PT3 X c tc) (ha:PSs3 X a t) (hb:PSs3 X b u):PS3 X (.If c a b pos) (tIfS tc t u):=by
 intro pins s τ G H D I h
 refine wpAny_If (thn (hc pins s τ G H _ I h) fun d s1 w_=>w_.el fun G1 H1 e1 I1 q1=> ?_)
 cases d with
 | true=>exact thn (ha pins s1 τ G1 H1 D I1 q1) fun _ _ z=>z.ext e1
 | false=>exact thn (hb pins s1 τ G1 H1 D I1 q1) fun _ _ z=>z.ext e1
end
abbrev TG3:=T->St3->Gp->(St3->Gp->Prop)->Prop
abbrev TGs3:=List T->St3->Gp->(St3->Gp->Prop)->Prop
def GP3 (X:Cx) (pins:List (Addr×Obj)) (H:Hp) (Q:St3->Gp->Prop) (s':Shared):Prop:=∃ τ' G' H',Ext H H'/\Inv3 X pins τ' G' H' s'/\Q τ' G'
noncomputable def PG3 (X:Cx) (target:Expr) (t:TG3):Prop:=
 ∀(pins:List (Addr×Obj)) (s:Shared) (τ:St3) (G:Gp) (H:Hp) (v:T) (u:Value) (Q:St3->Gp->Prop),Inv3 X pins τ G H s->RU X.K H v u->t v τ G Q->
  wpAny (model X.prog X.w) X.A (assign target X.env u) (fun _ s'=>GP3 X pins H Q s') X.xe s
noncomputable def PGs3 (X:Cx) (ts:List Expr) (t:TGs3):Prop:=
 ∀(pins:List (Addr×Obj)) (s:Shared) (τ:St3) (G:Gp) (H:Hp) (vs:List T) (us:List Value) (Q:St3->Gp->Prop),Inv3 X pins τ G H s->RUs X.K H vs us->t vs τ G Q->
  wpAny (model X.prog X.w) X.A (assignInOrder ((assignEach ts X.env).map (·.2)) us) (fun _ s'=>GP3 X pins H Q s') X.xe s
def jJg (i:Nat):TG3:=fun v τ G Q=>Q (τ.set i (some v)) G
def gNil:TGs3:=fun vs τ G Q=>vs=[]/\Q τ G
def jKg (t:TG3) (u:TGs3):TGs3:=fun vs τ G Q=>∃v r,vs=v::r/\t v τ G fun τ' G'=>u r τ' G' Q
def gTup (n:Nat) (t:TGs3):TG3:=fun v τ G Q=>∃xs,v= .tup xs/\xs.length=n/\t xs τ G Q
def gSub (to ti:TE3) (t:T->T->T->Gp->(Gp->Prop)->Prop):TG3:=fun v τ G Q=>to τ G fun o G1=>ti τ G1 fun i G2=>t o i v G2 fun G3=>Q τ G3
def tAsg (te:TE3) (g:TG3):TS3:=fun D τ G=>te τ G fun x G1=>g x τ G1 D.nx
section
variable {X:Cx} {pos:Pos}
theorem jJp {i:Nat} {x:Str} (hN:X.N.Nodup) (hi:X.N[i]? =some x:=by rfl) (hx:Loc X.env.scope x:=by first | exact Or.inl rfl | exact Or.inr rfl) (hf:X.fn x=true\/X.env.scope.names.lookup x=some .local:=by first | exact .inl rfl | exact .inr rfl):PG3 X (.Name x pos) (jJg i):=by
 rintro pins s τ G H v u Q ⟨σ,I,hs,hg⟩ ⟨a,ra,rv⟩ h
 exact wpAny_assign_Name (jZ0 I hN hi hx rv (fun s' I'=>⟨_,G,H,.refl H,⟨_,I',hs.set i ra,hg⟩,h⟩) hf)
theorem jUp:PGs3 X [] gNil:=by
 rintro pins s τ G H vs us Q I ⟨as,r,rv⟩ ⟨e,h⟩
 subst e
 cases (show as=[] from r)
 cases rv
 exact assignInOrder_nil ⟨τ,G,H,.refl H,I,h⟩
theorem jJz {e:Expr} {es:List Expr} {t:TG3} {u:TGs3} (h1:PG3 X e t) (h2:PGs3 X es u)
  (hs:(assignEach (e::es) X.env).map (·.2)=assign e X.env::(assignEach es X.env).map (·.2):=by rfl):PGs3 X (e::es) (jKg t u):=by
 rintro pins s τ G H vs us Q I ⟨as,r,rv⟩ ⟨v,vr,e1,h⟩
 subst e1
 obtain⟨a,ar,rfl,ra,rar⟩:=r
 cases rv with
 | cons q qq=>
  rw[hs]
  refine assignInOrder_cons (thn (h1 pins s τ G H v _ _ I ⟨a,ra,q⟩ h) fun _ s1 ⟨τ1,G1,H1,e1,I1,q1⟩=> ?_)
  exact thn (h2 pins s1 τ1 G1 H1 vr _ Q I1 ⟨ar,Reps.mono e1 _ rar,qq⟩ q1) fun _ s2 ⟨τ2,G2,H2,e2,z⟩=>⟨τ2,G2,H2,e1.trans e2,z⟩
theorem jYp {es:List Expr} {k:Nat} {t:TGs3} {n:Nat} (hc:X.calm=true) (h:PGs3 X es t)
  (hn:(assignEach es X.env).length=n:=by rfl) (hst:(assignEach es X.env).findIdx? (·.1)=none:=by rfl):PG3 X (.Tuple es k pos) (gTup n t):=by
 rintro pins s τ G H v u Q ⟨σ,I,hs,hg⟩ ⟨a,ra,rv⟩ ⟨xs,ev,hl,hw⟩
 subst ev
 obtain⟨p,vs,e1,h1,r1⟩:=(show ∃p vs,a= .ref p/\H p=some (.tup vs)/\Reps X.K H xs vs from ra)
 subst e1
 cases rv
 obtain⟨its,rv,ht,hz⟩:=I.tuple (.of h1)
 refine assign_Tuple_tuple (I.ok.hd hc) ht (by simp[hn,<-hl,r1.length,rv.length]) hst fun h' hx=> ?_
 have I1:Inv X pins σ H {s with heap:=h'}:=I.kept (t':=s.toks) fun b o e=>hx b o (Nat.ne_of_lt (Heap.lt_size e)) e
 exact h pins _ τ G H xs _ Q ⟨σ,I1,hs,hg⟩ ⟨vs,r1,by simpa using rv⟩ hw
theorem kQk {o i:Expr} {to ti:TE3} {t:T->T->T->Gp->(Gp->Prop)->Prop} (ho:PE3 X o to) (hi:PE3 X i ti) (hs:Set3 X t)
  (ha:∀v,assign (.Subscript o i pos) X.env v=(do
   let ov <-holding [v] (eval o X.env)
   let iv <-holding [v,ov] (eval i X.env)
   standAt pos
   holding [v,ov,iv] (setItem ov iv v)
   release [v,ov,iv] []):=by intro _;rfl):PG3 X (.Subscript o i pos) (gSub to ti t):=by
 intro pins s τ G H v u Q I r h
 rw[ha]
 refine wpAny_bind (wpAny_holding (thn (ho pins s τ G H _ I h) fun ov s1 w_=>w_.el fun x G1 H1 e1 I1 r1 q1=> ?_))
 refine wpAny_bind (wpAny_holding (thn (hi pins s1 τ G1 H1 _ I1 q1) fun iv s2 w_=>w_.el fun y G2 H2 e2 I2 r2 q2=> ?_))
 refine wpAny_bind (wpAny_standAt (wpAny_bind (wpAny_holding (thn (hs pins s2 τ G2 H2 x y v ov iv u _ I2 (r1.mono e2) r2 (r.mono (e1.trans e2)) q2) fun _ s3 ⟨G3,H3,e3,I3,q3⟩=> ?_))))
 exact wpAny_release ⟨τ,G3,H3,(e1.trans e2).trans e3,I3,q3⟩
theorem kJx {tg e:Expr} {te:TE3} {g:TG3} (he:PE3 X e te) (hg:PG3 X tg g) (hs:swapsWithSole [tg] e pos.line X.env=pure false:=by rfl) (hw:swappedStores [tg] e X.env=pure none:=by rfl)
  (h1:(assignEach [tg] X.env).map (·.2)=[assign tg X.env]:=by rfl):PS3 X (.Assign [tg] e pos) (tAsg te g):=by
 intro pins s τ G H D I h
 refine wpAny_Assign_stores (thn (he pins s τ G H _ I h) fun v s1 w_=>w_.el fun x G1 H1 e1 I1 r1 q1=> ?_) hs hw
 rw[h1]
 exact thn (hg pins s1 τ G1 H1 x v _ I1 r1 q1) fun _ s2 ⟨τ2,G2,H2,e2,q⟩=>⟨τ2,G2,H2,e1.trans e2,q⟩
theorem jKh {i:Nat} {x:Str} {e:Expr} {te:TE3} {pos':Pos} (hN:X.N.Nodup) (he:PE3 X e te) (hi:X.N[i]? =some x:=by rfl) (hx:Loc X.env.scope x:=by first | exact Or.inl rfl | exact Or.inr rfl)
  (hs:swapsWith e (some (.Name x pos')) pos.line X.env=pure false:=by rfl) (hf:X.fn x=true\/X.env.scope.names.lookup x=some .local:=by first | exact .inl rfl | exact .inr rfl):
  PS3 X (.Assign [.Name x pos'] e pos) (tAsg te (jJg i)):=by
 intro pins s τ G H D I h
 refine wpAny_Assign_Name (thn (he pins s τ G H _ I h) fun v s1 w_=>w_.el fun y G1 H1 e1 i_ r_ q1=>i_.el fun σ I1 hs1 hg1=>r_.el fun a ra rv=> ?_) hs
 exact jZ0 I1 hN hi hx rv (fun s2 I2=>⟨_,G1,H1,e1,⟨_,I2,hs1.set i ra,hg1⟩,q1⟩) hf
def tPar (i j:Nat) (ta:TA3):TS3:=fun D τ G=>ta τ G fun vs G1=>∃v w,vs=[v,w]/\D.nx ((τ.set i (some v)).set j (some w)) G1
noncomputable def jZh (c:TT3) (tb:TS3):TS3:=fun D τ G=>∃W:Nat->St3->Gp->Prop,(∃m,W m τ G)/\∀m τ G,W m τ G->
 c τ G fun b G1=>if b=true then ∃N:St3->Gp->Prop,(∀ τ' G',N τ' G'->∃m',m'<m/\W m' τ' G')/\tb {D with nx:=N,ct:=N,bk:=D.nx} τ G1 else D.nx τ G1
theorem kXe {c:Expr} {body:List Stmt} {tc:TT3} {tb:TS3} (hp:PassesOwn (model X.prog X.w) X.A X.env X.xe) (hc:PT3 X c tc) (hb:PSs3 X body tb):PS3 X (.While c body [] pos) (jZh tc tb):=by
 intro pins s τ G H D I h
 obtain⟨W,⟨m0,w0⟩,turn⟩:=h
 refine wpAny_While (codeAny_whileLoop (fun n s'=>∃ τ' G' H',Ext H H'/\Inv3 X pins τ' G' H' s'/\W n τ' G') ?_ m0 ⟨τ,G,H,.refl H,I,w0⟩)
 rintro n s1 ⟨τ1,G1,H1,e1,I1,w1⟩
 refine wpAny_passesOwn hp (thn (hc pins s1 τ1 G1 H1 _ I1 (turn n τ1 G1 w1)) fun b s2 w_=>w_.el fun G2 H2 e2 I2 q2=> ?_)
 cases b with
 | true=>
  obtain⟨N,hN,q2⟩:=q2
  rw[if_pos rfl]
  refine wpAny_passesOwn hp (thn (hb pins s2 τ1 G2 H2 _ I2 q2) fun f s3 q3=> ?_)
  cases f with
  | next=>
   obtain⟨τ3,G3,H3,e3,I3,n3⟩:=q3
   obtain⟨m',hm,w3⟩:=hN τ3 G3 n3
   exact⟨m',hm,τ3,G3,H3,(e1.trans e2).trans e3,I3,w3⟩
  | cont=>
   obtain⟨τ3,G3,H3,e3,I3,n3⟩:=q3
   obtain⟨m',hm,w3⟩:=hN τ3 G3 n3
   exact⟨m',hm,τ3,G3,H3,(e1.trans e2).trans e3,I3,w3⟩
  | brk=>exact SP3.ext (f:= .next) (e1.trans e2) q3
  | ret v=>exact SP3.ext (f:= .ret v) (e1.trans e2) q3
 | false=>
  rw[if_neg Bool.false_ne_true]
  exact wpAny_execs_nil ⟨τ1,G2,H2,e1.trans e2,I2,q2⟩
end
noncomputable def Items (K:PySem.W.Frag) (H0:Hp) (J:It) (xs:List T) (stay:Gp->Prop):Prop:=
 ∀i H G,Ext H0 H->GRel K H G->stay G->(i<xs.length->J.go i H)/\(xs.length<=i->J.stop i H)/\(i<xs.length->∀x H',J.yld i H x H'->Ext H H'/\GRel K H' G/\∃t,xs[i]? =some t/\Rep K H' t x)
abbrev TI3:=St3->Gp->(List T->(Gp->Prop)->Gp->Prop)->Prop
noncomputable def PIE3 (X:Cx) (pins:List (Addr×Obj)) (τ:St3) (H:Hp) (tg:Expr) (R:List T->(Gp->Prop)->Gp->Prop) (itv:Value) (s2:Shared):Prop:=
 ∃(it:Addr) (fp:List Addr) (tn:Nat->Heap->Prop) (J:It) (xs:List T) (stay:Gp->Prop) (G':Gp) (H':Hp),itv= .ref it/\Ext H H'/\Inv3 X pins τ G' H' s2/\Turn X.prog X.w X.K tg J fp it tn/\tn 0 s2.heap/\(∀b∈fp,FpOk X pins H' b)/\
  Items X.K H' J xs stay/\R xs stay G'
noncomputable def PI3 (X:Cx) (tg iter:Expr) (wi:TI3):Prop:=
 ∀(pins:List (Addr×Obj)) (s:Shared) (τ:St3) (G:Gp) (H:Hp) (R:List T->(Gp->Prop)->Gp->Prop),Inv3 X pins τ G H s->wi τ G R->
  wpAny (model X.prog X.w) X.A (eval iter X.env) (fun v s1=>wpAny (model X.prog X.w) X.A (pyIter v) (PIE3 X pins τ H tg R) X.xe s1) X.xe s
noncomputable def tFor (wi:TI3) (g:TG3) (tb:TS3):TS3:=fun D τ G=>wi τ G fun xs stay G1=>∃P:Nat->St3->Gp->Prop,P 0 τ G1/\(∀i τ G,i<=xs.length->P i τ G->stay G)/\
 (∀i x τ G,xs[i]? =some x->P i τ G->g x τ G fun τ2 G2=>tb {D with nx:=P (i+1),ct:=P (i+1),bk:=D.nx} τ2 G2)/\∀ τ G,P xs.length τ G->D.nx τ G
section
variable {X:Cx} {tg:Expr} {pos:Pos}
theorem jUd {iter:Expr} {body:List Stmt} {wi:TI3} {g:TG3} {tb:TS3} (hp:PassesOwn (model X.prog X.w) X.A X.env X.xe) (hc:X.calm=true) (hi:PI3 X tg iter wi) (hg:PG3 X tg g) (hb:PSs3 X body tb)
  (hs:∀x,foldedSetIterable iter X.env x=pure x:=by intro _;rfl):PS3 X (.For tg iter body [] pos) (tFor wi g tb):=by
 intro pins s τ G H D I h
 refine wpAny_For (thn (hi pins s τ G H _ I h) fun v s1 h1=>thn h1 fun itv s2 h2=> ?_) hs
 obtain⟨it,fp,tn,J,xs,stay,G2,H2,e,eH,I2,T0,st2,f2,IT,P,p0,hstay,turn,fin⟩:=h2
 subst e
 have stat:∀ {H':Hp},(∀b∈fp,H' b=none)->∀b∈fp,FpOk X pins H' b:=fun hn b hb=>⟨hn b hb,(f2 b hb).2⟩
 refine codeAny_forLoop_any (fun n s'=>∃i τ' G' H',n=xs.length-i/\i<=xs.length/\Ext H2 H'/\Inv3 X pins τ' G' H' s'/\tn i s'.heap/\(∀b∈fp,H' b=none)/\P i τ' G') ?_ xs.length ⟨0,τ,G2,H2,rfl,Nat.zero_le _,.refl _,I2,st2,fun b hb=>(f2 b hb).1,p0⟩
 rintro n s3 ⟨i,τ3,G3,H3,en,hi3,e3,⟨σ3,I3,hs3,hg3⟩,st3,fr3,p3⟩
 obtain⟨go,stop,yl⟩:=IT i H3 G3 e3 hg3 (hstay i τ3 G3 hi3 p3)
 by_cases hlt:i<xs.length
 ·refine wpAny_passesOwn hp (thn (T0.item X rfl rfl rfl hc i pins s3 σ3 H3 X.xe I3 (stat fr3) st3 (go hlt)) fun r s4 ⟨u,hr,h4⟩=> ?_)
  subst hr
  refine wpAny_passesOwn hp (thn h4 fun _ s5 ⟨x,H5,I5,r5,y5,st5,fr5⟩=> ?_)
  obtain⟨e5,g5,t,ht,rt⟩:=yl hlt x H5 y5
  have I5':=I5.pinned (stat fr5) (T0.obj _ _ st5)
  refine wpAny_passesOwn hp (thn (hg _ s5 τ3 G3 H5 t u _ ⟨σ3,I5',hs3.mono e5,g5⟩ ⟨x,rt,r5⟩ (turn i t τ3 G3 ht p3)) fun _ s6 ⟨τ6,G6,H6,e6,I6,q6⟩=> ?_)
  refine wpAny_passesOwn hp (thn (hb _ s6 τ6 G6 H6 _ I6 q6) fun f s7 q7=> ?_)
  have e36:Ext H2 H6:=(e3.trans e5).trans e6
  have again:∀ {τ7:St3} {G7:Gp} {H7:Hp},Ext H6 H7->Inv3 X (pins++jQh fp s5.heap) τ7 G7 H7 s7->P (i+1) τ7 G7->
    ∃m,m<n/\∃i τ' G' H',m=xs.length-i/\i<=xs.length/\Ext H2 H'/\Inv3 X pins τ' G' H' s7/\tn i s7.heap/\(∀b∈fp,H' b=none)/\P i τ' G':=fun {τ7 G7 H7} e7 ⟨σ7,I7,hs7,hg7⟩ p7=>by
   refine⟨xs.length-(i+1),by omega,i+1,τ7,G7,H7,rfl,hlt,e36.trans e7,⟨σ7,I7.unpinned,hs7,hg7⟩,T0.keep _ _ _ st5 fun b hb o e=>(I7.pin (b,o) (List.mem_append_right _ (List.mem_append_right _ (jQd hb e)))).1,fun b hb=> ?_,p7⟩
   obtain⟨o,e,d⟩:=T0.obj _ _ st5 b hb
   exact (I7.pin (b,o) (List.mem_append_right _ (List.mem_append_right _ (jQd hb e)))).2.1
  have un:∀ {τ7:St3} {G7:Gp} {H7:Hp},Inv3 X (pins++jQh fp s5.heap) τ7 G7 H7 s7->Inv3 X pins τ7 G7 H7 s7:=fun ⟨σ7,I7,a,b⟩=>⟨σ7,I7.unpinned,a,b⟩
  cases f with
  | next=>obtain⟨τ7,G7,H7,e7,I7,n7⟩:=q7;exact again e7 I7 n7
  | cont=>obtain⟨τ7,G7,H7,e7,I7,n7⟩:=q7;exact again e7 I7 n7
  | brk=>obtain⟨τ7,G7,H7,e7,I7,q7⟩:=q7;exact⟨τ7,G7,H7,(eH.trans e36).trans e7,un I7,q7⟩
  | ret v=>obtain⟨x7,τ7,G7,H7,e7,I7,r7,q7⟩:=q7;exact⟨x7,τ7,G7,H7,(eH.trans e36).trans e7,un I7,r7,q7⟩
 ·have ei:i=xs.length:=by omega
  refine wpAny_passesOwn hp (thn (T0.done X rfl rfl rfl hc i pins s3 σ3 H3 X.xe I3 (stat fr3) st3 (stop (by omega))) fun r s4 ⟨hr,I4⟩=> ?_)
  subst hr;subst ei
  exact wpAny_execs_nil ⟨τ3,G3,H3,eH.trans e3,⟨σ3,I4,hs3,hg3⟩,fin τ3 G3 p3⟩
def iSeq (tl:TE3):TI3:=fun τ G R=>tl τ G fun x G1=>∃xs,seqT G1 x=some xs/\R xs (fun G'=>seqT G' x=some xs) G1
theorem jVb {l:Expr} {tl:TE3} (hl:PE3 X l tl):PI3 X tg l (iSeq tl):=by
 intro pins s τ G H R I h
 refine thn (hl pins s τ G H _ I h) fun v s1 w_=>w_.el fun x G1 H1 e1 i_ r_ ⟨xs,hx,q⟩=>i_.el fun σ I1 hs1 hg1=>r_.el fun a ra rv=> ?_
 obtain⟨p,vs,e,hq,r⟩:=jQu hg1 ra hx
 subst e
 cases rv
 have fpk:∀b∈[s1.heap.objs.size],FpOk X pins H1 b:=fun b hb=>by
  have e:b=s1.heap.objs.size:=by simpa using hb
  subst e
  exact I1.fpOk (Nat.le_refl _) (I1.hok.fresh (Nat.le_refl _))
 rcases hq with hq | hq
 ·obtain⟨its,rv,pl,hz⟩:=I1.list hq
  refine wpAny_pyIter_list pl.isList ?_
  refine⟨s1.heap.objs.size,[s1.heap.objs.size],_,_,xs,fun G'=>seqT G' x=some xs,G1,H1,rfl,e1,⟨σ,I1.kept (t':=s1.toks) fun b o e=>Heap.get?_push_of_some _ e,hs1,hg1⟩,kV2 p _,⟨_,Heap.get?_push_size _ rfl,rfl,rfl⟩,fpk,?_,q⟩
  intro i H2 G2 e2 g2 st
  have ra2:=Rep.mono e2 _ ra
  have now:∃ws,SqL X.K H2 p ws/\Reps X.K H2 xs ws:=by
   cases x with
   | scr ys=>cases hx;obtain⟨p',ws,ep,h1,h2⟩:=(show ∃p' ws,V.ref p= .ref p'/\FrL X.K H2 p' ws/\Reps X.K H2 xs ws from ra2);cases ep;exact⟨ws,h1.sq,h2⟩
   | ref p'=>cases (show V.ref p= .ref p' from ra);obtain⟨ws,h1,h2⟩:=g2.lst (jVw st);exact⟨ws,.of h1,h2⟩
   | tup ys=>
    obtain⟨p',ws,ep,h1,h2⟩:=(show ∃p' ws,V.ref p= .ref p'/\H1 p'=some (.tup ws)/\Reps X.K H1 ys ws from ra)
    cases ep
    exfalso
    obtain⟨its',_,pl',_⟩:=I1.tuple (.of h1)
    obtain⟨o,n,ho,hc,_⟩:=pl
    obtain⟨o',ho',hc',_⟩:=pl'
    rw[ho] at ho';cases ho'
    rw[hc] at hc';exact absurd hc' (by decide)
   | non=>cases hx
   | bl _=>cases hx
   | int _=>cases hx
   | str _=>cases hx
   | ty _=>cases hx
  obtain⟨ws,h1,h2⟩:=now
  have hlen:=h2.length
  refine⟨fun hi=> ?_,fun hi=>⟨ws,h1,by omega⟩,fun _ y H' ⟨eH,hy⟩=> ?_⟩
  ·exact⟨ws,ws[i]'(by omega),h1,by simp[hlen▸hi]⟩
  ·subst eH
   obtain⟨t,ht,rt⟩:=h2.get' (hy ws h1)
   exact⟨.refl _,g2,t,ht,rt⟩
 ·obtain⟨its,rv,pl,hz⟩:=I1.tuple hq
  refine wpAny_pyIter_tuple (show s1.heap.IsTuple p its.toArray from pl) ?_
  refine⟨s1.heap.objs.size,[s1.heap.objs.size],_,_,xs,fun G'=>seqT G' x=some xs,G1,H1,rfl,e1,⟨σ,I1.kept (t':=s1.toks) fun b o e=>Heap.get?_push_of_some _ e,hs1,hg1⟩,kU5 p _,⟨_,Heap.get?_push_size _ rfl,rfl,rfl⟩,fpk,?_,q⟩
  intro i H2 G2 e2 g2 st
  have ra2:=Rep.mono e2 _ ra
  have now:∃ws,H2 p=some (.tup ws)/\Reps X.K H2 xs ws:=by
   cases x with
   | tup ys=>cases hx;obtain⟨p',ws,ep,h1,h2⟩:=(show ∃p' ws,V.ref p= .ref p'/\H2 p'=some (.tup ws)/\Reps X.K H2 xs ws from ra2);cases ep;exact⟨ws,h1,h2⟩
   | scr ys=>
    obtain⟨p',ws,ep,h1,h2⟩:=(show ∃p' ws,V.ref p= .ref p'/\FrL X.K H1 p' ws/\Reps X.K H1 ys ws from ra)
    cases ep
    exfalso
    obtain⟨its',_,pl',_⟩:=I1.list h1.sq
    obtain⟨o,n,ho,hc,_⟩:=pl'
    obtain⟨o',ho',hc',_⟩:=pl
    rw[ho] at ho';cases ho'
    rw[hc] at hc';exact absurd hc' (by decide)
   | ref p'=>
    cases (show V.ref p= .ref p' from ra)
    obtain⟨ws,h1,h2⟩:=hg1.lst (jVw hx)
    exfalso
    obtain⟨its',_,pl',_⟩:=I1.list (.of h1)
    obtain⟨o,n,ho,hc,_⟩:=pl'
    obtain⟨o',ho',hc',_⟩:=pl
    rw[ho] at ho';cases ho'
    rw[hc] at hc';exact absurd hc' (by decide)
   | non=>cases hx
   | bl _=>cases hx
   | int _=>cases hx
   | str _=>cases hx
   | ty _=>cases hx
  obtain⟨ws,h1,h2⟩:=now
  have hlen:=h2.length
  refine⟨fun hi=> ?_,fun hi=>⟨ws,.of h1,by omega⟩,fun _ y H' ⟨eH,hy⟩=> ?_⟩
  ·exact⟨ws,ws[i]'(by omega),.of h1,by simp[hlen▸hi]⟩
  ·subst eH
   obtain⟨t,ht,rt⟩:=h2.get' (hy ws (.of h1))
   exact⟨.refl _,g2,t,ht,rt⟩
def rngT (lo:Int) (n:Nat):List T:=(List.range n).map fun (k:Nat)=>T.int (lo+k)
def jKx (ta:TA3):TI3:=fun τ G R=>ta τ G fun vs G1=>∃j:Int,vs=[.int j]/\ -(2^62)<=j/\j<2^62/\R (rngT 0 j.toNat) (fun _=>True) G1
def kQj (ta:TA3):TI3:=fun τ G R=>ta τ G fun vs G1=>∃i j:Int,vs=[.int i,.int j]/\(-(2^62)<=i/\i<2^62/\ -(2^62)<=j/\j<2^62)/\R (rngT i (j-i).toNat) (fun _=>True) G1
theorem kJ8 {K:PySem.W.Frag} {H:Hp} (lo:Int) (n:Nat):Items K H (Itr lo n) (rngT lo n) fun _=>True:=by
 intro i H' G e g _
 have hl:(rngT lo n).length=n:=by simp[rngT]
 refine⟨fun h=>by rw[hl] at h;exact h,fun h=>by rw[hl] at h;exact h,fun hi x H2 ⟨eH,ex⟩=> ?_⟩
 rw[hl] at hi
 subst eH;subst ex
 exact⟨.refl _,g,.int (lo+i),by simp[rngT,hi],rfl⟩
theorem jKk {a:Expr} {ta:TA3} {p:Pos} (hg:Gl X "range") (hm:X.mg "range"=none) (ha:PA3 X [a] ta) (hs:starEach [a] X.env=[(false,eval a X.env)]:=by rfl):PI3 X tg (.Call (.Name "range" p) [a] [] pos) (jKx ta):=by
 intro pins s τ G H R I h
 obtain⟨σ,I0,hs0,hg0⟩:=id I
 refine Call_ (jXh I0 hg hm boot_range (PyProof.Rows.callWith_type1 (thn (ha pos pins s τ G H _ I h) fun us s1 w_=>w_.el fun xs G1 H1 e1 i_ r_ q1=>i_.el fun σ I1 hs1 hg1=>r_.el fun as ras rvs=> ?_) hs rfl))
 obtain⟨j,e,q1,q2,q⟩:=q1
 subst e
 obtain⟨v,rfl,rv⟩:=jUm ras
 cases (show v= .int j from rv)
 obtain⟨u,rfl,ru⟩:=rvs.one
 obtain⟨t,rfl⟩:=ru
 refine call_range_1 (thn (kQ3 (tg:=tg) (R:=fun J H'=>J=Itr 0 j.toNat/\H'=H1) I1 (by omega) (by omega) q1 q2 ⟨by simp,rfl⟩) fun itv s2 z=> ?_)
 obtain⟨it,fp,tn,J,H',ei,I2,T0,st,fk,eJ,eH⟩:=z
 subst eJ;subst eH
 exact⟨it,fp,tn,_,rngT 0 j.toNat,fun _=>True,G1,H',ei,e1,⟨σ,I2,hs1,hg1⟩,T0,st,fk,kJ8 0 j.toNat,q⟩
theorem kJi {a b:Expr} {ta:TA3} {p:Pos} (hg:Gl X "range") (hm:X.mg "range"=none) (ha:PA3 X [a,b] ta) (hs:starEach [a,b] X.env=[(false,eval a X.env),(false,eval b X.env)]:=by rfl) (hs2:starEach [b] X.env=[(false,eval b X.env)]:=by rfl):
  PI3 X tg (.Call (.Name "range" p) [a,b] [] pos) (kQj ta):=by
 intro pins s τ G H R I h
 obtain⟨σ,I0,hs0,hg0⟩:=id I
 refine Call_ (jXh I0 hg hm boot_range (PyProof.Rows.callWith_type1 (thn (ha pos pins s τ G H _ I h) fun us s1 w_=>w_.el fun xs G1 H1 e1 i_ r_ q1=>i_.el fun σ I1 hs1 hg1=>r_.el fun as ras rvs=> ?_) (by rw[hs,hs2]) (by rw[hs2];rfl)))
 obtain⟨i,j,e,⟨q1,q2,q3,q4⟩,q⟩:=q1
 subst e
 obtain⟨v,w,rfl,rv,rw'⟩:=kK4 ras
 cases (show v= .int i from rv);cases (show w= .int j from rw')
 obtain⟨u,u',rfl,ru,ru'⟩:=rvs.two
 obtain⟨t,rfl⟩:=ru
 obtain⟨t',rfl⟩:=ru'
 refine call_range_2 (thn (kQ3 (tg:=tg) (R:=fun J H'=>J=Itr i (j-i).toNat/\H'=H1) I1 q1 q2 q3 q4 ⟨rfl,rfl⟩) fun itv s2 z=> ?_)
 obtain⟨it,fp,tn,J,H',ei,I2,T0,st,fk,eJ,eH⟩:=z
 subst eJ;subst eH
 exact⟨it,fp,tn,_,rngT i (j-i).toNat,fun _=>True,G1,H',ei,e1,⟨σ,I2,hs1,hg1⟩,T0,st,fk,kJ8 i (j-i).toNat,q⟩
end
abbrev Sp3:=List T->Gp->VK3->Prop
def dn (K:PySem.W.Frag) (n:Nat) (sp:Sp3):Sp:=fun vs H Q _=>vs.length=n/\∃xs G,Reps K H xs vs/\GRel K H G/\sp xs G fun t G'=>∀v H',Ext H H'->GRel K H' G'->Rep K H' t v->Q v H'
noncomputable def Fn3 (P:Program) (w:World) (K:PySem.W.Frag) (mg:Str->Option Value) (base:Heap) (k:Nat) (f:Addr) (fd:FuncData) (ps:List Str) (sp:Sp3):Prop:=FnOk P w K mg base CX0 k f fd ps (dn K ps.length sp)
def jKd (sp:Sp3) (t:TA3):TE3:=fun τ G Q=>t τ G fun xs G1=>sp xs G1 Q
def Mono (sp:Sp3):Prop:=∀xs G Q Q',(∀t G',Q t G'->Q' t G')->sp xs G Q->sp xs G Q'
def jKu (N:List Str) (xs:List T):St3:=xs.map some++List.replicate (N.length-xs.length) none
theorem kV9 {K:PySem.W.Frag} {H:Hp} {N:List Str} {xs:List T} {vs:List V} (r:Reps K H xs vs):SRel K H (start N vs) (jKu N xs):=by
 have hl:=r.length
 refine⟨by simp[L2.start,jKu,hl],fun i t h=> ?_⟩
 unfold jKu at h
 unfold L2.start
 by_cases hi:i<xs.length
 ·rw[List.getElem?_append_left (by simpa using hi),List.getElem?_map] at h
  cases e:xs[i]? with
  | none=>rw[e] at h;cases h
  | some x=>
   rw[e] at h;cases h
   obtain⟨v,hv,rv⟩:=r.get e
   exact⟨v,by rw[List.getElem?_append_left (by simp;omega),List.getElem?_map,hv];rfl,rv⟩
 ·rw[List.getElem?_append_right (by simpa using hi),List.getElem?_replicate] at h
  split at h<;>cases h
theorem fn3 {P:Program} {w:World} {K:PySem.W.Frag} {mg:Str->Option Value} {base:Heap} {x qual:Str} {st:Stmt} {f:Addr} {fd:FuncData} {N ps:List Str} {k:Nat} {sp:Sp3} (F:Fun K x qual st f fd) (S:FnScope N ps (jJv st))
  (hbody:∀(cdv:Value) (A:Around) (outer:List Env) (s:Shared) (H:Hp) (E:XK),Room k (A.deeper (envOfC qual (jJv st) s.heap.objs.size f cdv))->
   ∃t,PSs3 (cxOf CX0 P w K mg base N qual (jJv st) f cdv A outer s H E).nox (jQs st) t/\∀xs G Q,sp xs G Q->t {nx:=fun _ G'=>Q .non G',rt:=Q} (jKu N xs) G):Fn3 P w K mg base (k+1) f fd ps sp:=by
 refine Fun.ok (sp:=dn K ps.length sp) F S (fun vs H Q E h=>h.1) fun cdv A outer s H vs Q E hr hsp=> ?_
 obtain⟨t,ht,hq⟩:=hbody cdv A outer s H E hr
 obtain⟨hl,xs,G,rs,hg,hsp⟩:=hsp
 refine⟨fun D σ H1=>D.nx=(fun _ H'=>Q .non H')/\D.rt=Q/\σ=L2.start N vs/\H1=H,?_,rfl,rfl,rfl,rfl⟩
 rintro pins s1 σ1 H1 D I ⟨e1,e2,e3,e4⟩
 subst e3;subst e4
 have I3:Inv3 (cxOf CX0 P w K mg base N qual (jJv st) f cdv A outer s H1 E).nox pins (jKu N xs) G H1 s1:=⟨_,I,kV9 rs,hg⟩
 refine thn (ht pins s1 _ G H1 _ I3 (hq xs G _ hsp)) fun fl s2 z=> ?_
 cases fl with
 | next=>obtain⟨τ',G',H',e',⟨σ',I',a,b⟩,q⟩:=z;exact⟨σ',H',I',by rw[e1];exact q .non H' e' b rfl⟩
 | brk=>obtain⟨τ',G',H',e',_,q⟩:=z;exact q.elim
 | cont=>obtain⟨τ',G',H',e',_,q⟩:=z;exact q.elim
 | ret u=>obtain⟨x',τ',G',H',e',⟨σ',I',a,b⟩,⟨v,rv,ru⟩,q⟩:=z;exact⟨v,σ',H',I',ru,by rw[e2];exact q v H' e' b rv⟩
mutual
noncomputable def dep:T->Nat
 | .tup xs=>deps xs+1
 | _=>0
noncomputable def deps:List T->Nat
 | []=>0
 | x::xs=>max (dep x) (deps xs)
end
mutual
noncomputable def tree:T->Bool
 | .tup xs=>jKz xs
 | .ref _=>false
 | .scr _=>false
 | .ty _=>false
 | .non=>true
 | .bl _=>true
 | .int _=>true
 | .str _=>true
noncomputable def jKz:List T->Bool
 | []=>true
 | x::xs=>tree x&&jKz xs
end
mutual
noncomputable def eqT:T->T->Bool
 | .non,.non=>true
 | .bl a,.bl b=>a == b
 | .bl a,.int b=>(if a then 1 else 0) == b
 | .int a,.bl b=>a == (if b then 1 else 0)
 | .int a,.int b=>a == b
 | .str a,.str b=>a == b
 | .tup xs,.tup ys=>eqTs xs ys
 | _,_=>false
noncomputable def eqTs:List T->List T->Bool
 | [],[]=>true
 | x::xs,y::ys=>eqT x y&&eqTs xs ys
 | [],_::_=>false
 | _::_,[]=>false
end
mutual
theorem qJ1 {K:PySem.W.Frag} {H:Hp}:∀(x y:T) {a:V},tree x=true->tree y=true->Rep K H x a->Rep K H y a->eqT x y=true
 | .non,y,a,hx,hy,r,q=>by
  cases (show a= .non from r)
  cases y<;>first | rfl | (exact absurd (show false=true from hy) Bool.false_ne_true) | (cases (show V.non=_ from q)) | (obtain⟨_,_,e,_⟩:=(show ∃c vs,V.non= .ref c/\_ from q);cases e)
 | .bl b,y,a,hx,hy,r,q=>by
  cases (show a= .bl b from r)
  cases y with
  | bl c=>cases (show V.bl b=V.bl c from q);simp[eqT]
  | tup ys=>obtain⟨_,_,e,_⟩:=(show ∃c vs,V.bl b= .ref c/\_ from q);cases e
  | non=>cases (show V.bl b= .non from q)
  | int c=>cases (show V.bl b= .int c from q)
  | str c=>cases (show V.bl b= .str c from q)
  | _=>exact absurd (show false=true from hy) Bool.false_ne_true
 | .int b,y,a,hx,hy,r,q=>by
  cases (show a= .int b from r)
  cases y with
  | int c=>cases (show V.int b=V.int c from q);simp[eqT]
  | tup ys=>obtain⟨_,_,e,_⟩:=(show ∃c vs,V.int b= .ref c/\_ from q);cases e
  | non=>cases (show V.int b= .non from q)
  | bl c=>cases (show V.int b= .bl c from q)
  | str c=>cases (show V.int b= .str c from q)
  | _=>exact absurd (show false=true from hy) Bool.false_ne_true
 | .str b,y,a,hx,hy,r,q=>by
  cases (show a= .str b from r)
  cases y with
  | str c=>cases (show V.str b=V.str c from q);simp[eqT]
  | tup ys=>obtain⟨_,_,e,_⟩:=(show ∃c vs,V.str b= .ref c/\_ from q);cases e
  | non=>cases (show V.str b= .non from q)
  | bl c=>cases (show V.str b= .bl c from q)
  | int c=>cases (show V.str b= .int c from q)
  | _=>exact absurd (show false=true from hy) Bool.false_ne_true
 | .tup xs,y,a,hx,hy,r,q=>by
  obtain⟨p,vs,e,h1,h2⟩:=(show ∃p vs,a= .ref p/\H p=some (.tup vs)/\Reps K H xs vs from r)
  subst e
  cases y with
  | tup ys=>
   obtain⟨p',vs',e',h1',h2'⟩:=(show ∃p' vs',V.ref p= .ref p'/\H p'=some (.tup vs')/\Reps K H ys vs' from q)
   cases e'
   rw[h1] at h1';cases h1'
   exact kKb xs ys (show jKz xs=true from hx) (show jKz ys=true from hy) h2 h2'
  | non=>cases (show V.ref p= .non from q)
  | bl c=>cases (show V.ref p= .bl c from q)
  | int c=>cases (show V.ref p= .int c from q)
  | str c=>cases (show V.ref p= .str c from q)
  | _=>exact absurd (show false=true from hy) Bool.false_ne_true
 | .ref _,_,_,hx,_,_,_=>absurd (show false=true from hx) Bool.false_ne_true
 | .scr _,_,_,hx,_,_,_=>absurd (show false=true from hx) Bool.false_ne_true
 | .ty _,_,_,hx,_,_,_=>absurd (show false=true from hx) Bool.false_ne_true
theorem kKb {K:PySem.W.Frag} {H:Hp}:∀(xs ys:List T) {vs:List V},jKz xs=true->jKz ys=true->Reps K H xs vs->Reps K H ys vs->eqTs xs ys=true
 | [],ys,_,_,_,r,q=>by
  cases r
  cases ys with
  | nil=>rfl
  | cons y ys=>obtain⟨_,_,e,_⟩:=q;cases e
 | x::xs,ys,_,hx,hy,⟨v,ws,e,r1,r2⟩,q=>by
  subst e
  cases ys with
  | nil=>cases q
  | cons y ys=>
   obtain⟨v',ws',e',q1,q2⟩:=q
   cases e'
   have hx':tree x=true/\jKz xs=true:=by simpa[jKz] using hx
   have hy':tree y=true/\jKz ys=true:=by simpa[jKz] using hy
   show (eqT x y&&eqTs xs ys)=true
   rw[qJ1 x y hx'.1 hy'.1 r1 q1,kKb xs ys hx'.2 hy'.2 r2 q2]
   rfl
end
section
variable {X:Cx}
def rSub:R3:=rI0 fun i j=> .int (i-j)
def rMod:R3:=rI (fun _ j=>0<j) fun i j=> .int (i%j)
def qQn:R3:=rI CDiv fun i j=> .int (i / j)
def rPow:R3:=rI CPow fun i j=> .int (i^j.toNat)
def rLt:R3:=rI0 fun i j=> .bl (decide (i<j))
def rGt:R3:=rI0 fun i j=> .bl (decide (j<i))
def rGe:R3:=rI0 fun i j=> .bl (decide (j<=i))
def rIsN:R3:=fun x y G Q=>y= .non/\Q (.bl (kVq x)) G
def rNotN:R3:=fun x y G Q=>y= .non/\Q (.bl (!kVq x)) G
def kZ8:R3:=fun x y G Q=>∃xs ys,x= .tup xs/\y= .tup ys/\xs≠[]/\xs.length+ys.length<=sizeLine/\Q (.tup (xs++ys)) G
theorem o_catT:Op3 X (binaryOp .Add) kZ8:=
 Op3.of qQs fun H G x y a b Q hg ra rb ⟨xs,ys,ex,ey,hx,hz,q⟩=>by
  subst ex;subst ey
  obtain⟨p,vs,e1,h1,h2⟩:=(show ∃p vs,a= .ref p/\H p=some (.tup vs)/\Reps X.K H xs vs from ra)
  obtain⟨p',ws,e2,h3,h4⟩:=(show ∃p vs,b= .ref p/\H p=some (.tup vs)/\Reps X.K H ys vs from rb)
  subst e1;subst e2
  have l1:=h2.length
  have l2:=h4.length
  refine⟨p,p',vs,ws,rfl,rfl,.of h1,.of h3,fun z=>hx ?_,by omega,fun z=> ?_,fun z l hl=> ?_⟩
  ·rw[z] at l1;exact List.length_eq_zero_iff.mp l1
  ·rw[z] at l2
   have:ys=[]:=List.length_eq_zero_iff.mp l2
   subst this
   exact⟨.tup (xs++[]),G,.refl H,hg,by rw[List.append_nil];exact ra,q⟩
  ·exact⟨.tup (xs++ys),G,.upd (.none hl),hg.tupNew hl,Rep.tupNew (h2.append h4) hl,q⟩
def rAddI:R3:=rI0 fun i j=> .int (i+j)
def rAddA:R3:=fun x y G Q=>rAddI x y G Q\/rCat x y G Q\/kZ8 x y G Q
theorem o_addA:Op3 X (binaryOp .Add) rAddA:=o_add.or (o_cat.or o_catT)
def rMulI:R3:=rI CMul fun i j=> .int (i*j)
def rMulA:R3:=fun x y G Q=>rMulI x y G Q\/rRep x y G Q
theorem o_mulA:Op3 X (binaryOp .Mult) rMulA:=o_mul.or o_rep
def rNeg:T->Gp->VK3->Prop:=fun x G Q=>∃i,x= .int i/\Q (.int (-i)) G
theorem jJt (b:Expr) {op:CmpOp} (h:behindInMarks op b=false:=by first | exact nomark _ | with_unfolding_all rfl):behindInMarks op b=false:=h
variable {a b c:Expr} {ta tb tc:TE3} {pos:Pos}
theorem qUn {op op':CmpOp} {r r':R3} (ho:Op3 X (compareOp op) r) (ho':Op3 X (compareOp op') r') (ha:PE3 X a ta) (hb:PE3 X b tb) (hc:PE3 X c tc)
  (hm:lastMarks [op,op'] [b,c]=false:=by with_unfolding_all rfl):PE3 X (.Compare a [op,op'] [b,c] pos) (jZi r r' ta tb tc):=by
 intro pins s τ G H Q I h
 refine Compare_chain (thn (ha pins s τ G H _ I h) fun v s1 w_=>w_.el fun x G1 H1 e1 I1 r1 q1=>chain_link (thn (hb pins s1 τ G1 H1 _ I1 q1) fun u s2 ⟨y,G2,H2,e2,I2,r2,q2⟩=>
  thn (ho pins s2 τ G2 H2 x y v u _ I2 (r1.mono e2) r2 q2) fun d s3 w_=>w_.el fun z G3 H3 e3 I3 r_ ⟨k,e,q3⟩=>r_.el fun v' rv' ru'=> ?_)) hm
 subst e
 cases (show v'= .bl k from rv');cases ru'
 refine wpAny_truthy_bool ?_
 cases k with
 | false=>exact ite_ff ⟨.bl false,G3,H3,(e1.trans e2).trans e3,I3,⟨.bl false,rfl,rfl⟩,q3⟩
 | true=>exact ite_tt (chain_last (thn (hc pins s3 τ G3 H3 _ I3 q3) fun w' s4 w_=>w_.el fun z' G4 H4 e4 I4 r4 q4=>thn (ho' pins s4 τ G4 H4 y z' u w' Q I4 (r2.mono (e3.trans e4)) r4 q4) fun _ _ z=>z.ext (((e1.trans e2).trans e3).trans e4)))
theorem qQa {op op':CmpOp} {r r':R3} (ho:Op3 X (compareOp op) r) (ho':Op3 X (compareOp op') r') (ha:PE3 X a ta) (hb:PE3 X b tb) (hc:PE3 X c tc)
  (hm:lastMarks [op,op'] [b,c]=false:=by with_unfolding_all rfl):PT3 X (.Compare a [op,op'] [b,c] pos) (jJ9 (jZi r r' ta tb tc)):=by
 intro pins s τ G H Q I h
 refine isTrue_chain (thn (ha pins s τ G H _ I h) fun v s1 w_=>w_.el fun x G1 H1 e1 I1 r1 q1=>test_link (thn (hb pins s1 τ G1 H1 _ I1 q1) fun u s2 ⟨y,G2,H2,e2,I2,r2,q2⟩=>
  thn (ho pins s2 τ G2 H2 x y v u _ I2 (r1.mono e2) r2 q2) fun d s3 w_=>w_.el fun z G3 H3 e3 I3 r_ ⟨k,e,q3⟩=>r_.el fun v' rv' ru'=> ?_)) hm
 subst e
 cases (show v'= .bl k from rv');cases ru'
 refine wpAny_truthy_bool ?_
 cases k with
 | false=>
  obtain⟨k',e',q'⟩:=q3
  cases e'
  exact ite_ff ⟨G3,H3,(e1.trans e2).trans e3,I3,q'⟩
 | true=>
  refine ite_tt (test_last (thn (hc pins s3 τ G3 H3 _ I3 q3) fun w' s4 w_=>w_.el fun z' G4 H4 e4 I4 r4 q4=>thn (ho' pins s4 τ G4 H4 y z' u w' _ I4 (r2.mono (e3.trans e4)) r4 q4) fun d' s5 w_=>w_.el fun z2 G5 H5 e5 I5 r_ ⟨k2,e2',q5⟩=>r_.el fun v2 rv2 ru2=> ?_))
  subst e2'
  cases (show v2= .bl k2 from rv2);cases ru2
  exact wpAny_truthy_bool ⟨G5,H5,(((e1.trans e2).trans e3).trans e4).trans e5,I5,q5⟩
mutual
noncomputable def td:T->PyData
 | .tup xs=> .tuple (tds xs)
 | .int i=> .int i
 | .bl b=> .bool b
 | .str x=> .str x
 | .non=> .none
 | .ref _=> .none
 | .scr _=> .none
 | .ty _=> .none
noncomputable def tds:List T->List PyData
 | []=>[]
 | x::xs=>td x::tds xs
end
def eqOk (x:T):Bool:=tree x&&(td x).canLay0&&decide ((td x).depth<=50)
def jYq (xs:List T):Bool:=jKz xs&&PyData.canLayAll0 (tds xs)&&decide ((PyData.list (tds xs)).depth<=50)
noncomputable def eqG (G:Gp) (x y:T):Option Bool:=match x,y with
 | .ref p,.ref q=>match G p,G q with
  | some (.lst xs),some (.lst ys)=>if jYq xs=true/\jYq ys=true then some (eqTs xs ys) else none
  | _,_=>none
 | _,_=>if eqOk x=true/\eqOk y=true then some (eqT x y) else none
def rEqA:R3:=fun x y G Q=>∃b,eqG G x y=some b/\Q (.bl b) G
def rNeA:R3:=fun x y G Q=>∃b,eqG G x y=some b/\Q (.bl (!b)) G
noncomputable def truT (G:Gp):T->Option Bool
 | .non=>some false
 | .bl b=>some b
 | .int i=>some (i != 0)
 | .tup xs=>some (!xs.isEmpty)
 | .ref p=>match G p with
  | some (.lst xs)=>some (!xs.isEmpty)
  | some (.dck kvs)=>some (!kvs.isEmpty)
  | _=>none
 | _=>none
def rTru:T->Gp->(Bool->Gp->Prop)->Prop:=fun x G Q=>∃b,truT G x=some b/\Q b G
theorem jXj {K:PySem.W.Frag} {H:Hp} {xs:List T} {vs:List V} (r:Reps K H xs vs):xs.isEmpty=vs.isEmpty:=by
 have:=r.length
 cases xs<;>cases vs<;>simp_all
theorem qK9:Tru3 X rTru:=
 Tru3.of tru_ok fun H G x a Q hg ra ⟨b,hb,q⟩=>by
  refine⟨b,?_,rfl,q⟩
  cases x with
  | non=>cases (show a= .non from ra);cases hb;rfl
  | bl k=>cases (show a= .bl k from ra);cases hb;rfl
  | int k=>cases (show a= .int k from ra);cases hb;rfl
  | tup xs=>
   obtain⟨p,vs,e1,h1,h2⟩:=(show ∃p vs,a= .ref p/\H p=some (.tup vs)/\Reps X.K H xs vs from ra)
   subst e1;cases hb
   exact .inr (.inl ⟨vs,.of h1,by rw[jXj h2]⟩)
  | ref p=>
   cases (show a= .ref p from ra)
   cases hG:G p with
   | none=>simp only[truT,hG] at hb;cases hb
   | some o=>
    simp only[truT,hG] at hb
    cases o with
    | lst xs=>cases hb;obtain⟨vs,h1,h2⟩:=hg.lst hG;exact .inl ⟨vs,.of h1,by rw[jXj h2]⟩
    | dct _=>cases hb
    | fdc _=>cases hb
    | ins _ _=>cases hb
    | dck kvs=>
     cases hb
     obtain⟨ws,h1,h2⟩:=hg p _ hG
     refine .inr (.inr ⟨ws,h1,?_⟩)
     cases h2<;>rfl
  | str _=>cases hb
  | scr _=>cases hb
  | ty _=>cases hb
end
section
variable {X:Cx} {pins:List (Addr×Obj)} {σ:L2.St} {H:Hp} {s:Shared} {h':Heap}
theorem jZv {t':Nat} {fp:List Addr} (I:Inv X pins σ H s) (k:∀b o,b∉fp->s.heap.get? b=some o->h'.get? b=some o) (hf:∀b∈fp,FpOk X pins H b):Inv X pins σ H {s with heap:=h',toks:=t'}:=by
 have nit:∀b u,H b=some u->b∉fp:=fun b u e z=>by rw[(hf b z).1] at e;cases e
 refine I.step (g':=s.gens) (d':=s.drawn) (ch:=fp) (fun b hb=>⟨(hf b hb).2.2.2.1,(hf b hb).2.1,(hf b hb).2.2.2.2.1,(hf b hb).2.2.2.2.2⟩) (fun b o _ _ hc e _=>k b o hc e) (fun b o _ _ hc e _=>⟨o.slots,k b o hc e⟩) (fun _ _ _ _ n=>n)
  (fun b o hc e=>⟨o,k b o hc e⟩) (fun _ _ e=>e) (fun _ _ _ e=>e) (fun b ps e=>⟨#[],by rw[e];simp⟩) (fun m hm=> ?_) (fun b u e=> ?_) I.bare
 ·obtain⟨o,es,ep,ho,r⟩:=hm
  exact⟨o,es,ep,k _ o (fun z=>(hf _ z).2.1 rfl) ho,r⟩
 ·refine (I.hok b u e).stay (fun c v hc q=>k c v ?_ q) (fun _ q=>q) fun _ _ q=>q
  rcases hc with z | z
  ·rw[z];exact nit b u e
  ·exact nit c _ z
theorem jVf {t':Nat} {fp:List Addr} {p:Addr} {vs:List V} {us:List Value} (I:Inv X pins σ H s) (k:∀b o,b∉fp->s.heap.get? b=some o->h'.get? b=some o) (hf:∀b∈fp,FpOk X pins H b)
  (hp:s.heap.objs.size<=p) (ht:TupD h' p us.toArray) (r:Vals vs us) (hz:vs.length<=sizeLine):Inv X pins σ (upd H p (.tup vs)) {s with heap:=h',toks:=t'}:=by
 have hn:H p=none:=I.hok.fresh hp
 have nit:∀b u,H b=some u->b∉fp:=fun b u e z=>by rw[(hf b z).1] at e;cases e
 have old:∀b o,s.heap.get? b=some o->b≠p:=fun b o e=>Nat.ne_of_lt (Nat.lt_of_lt_of_le (Heap.lt_size e) hp)
 have tr:∀b u,H b=some u->b≠p:=fun b u e z=>by rw[z,hn] at e;cases e
 refine I.step (g':=s.gens) (d':=s.drawn) (ch:=fp) (fun b hb=>⟨(hf b hb).2.2.2.1,(hf b hb).2.1,(hf b hb).2.2.2.2.1,(hf b hb).2.2.2.2.2⟩) (fun b o _ _ hc e _=>k b o hc e) (fun b o _ _ hc e _=>⟨o.slots,k b o hc e⟩) (fun b o _ e n=>by rw[jJu (old b o e)];exact n)
  (fun b o hc e=>⟨o,k b o hc e⟩) (fun b _ e=>by rw[jJu (tr b _ e)];exact e) (fun b _ _ e=>by rw[jJu (tr b _ e)];exact e) (fun b ps e=>⟨#[],by rw[jJu (tr b _ e),e];simp⟩) (fun m hm=> ?_) (fun b u e=> ?_) I.bare
 ·obtain⟨o,es,ep,ho,r⟩:=hm
  exact⟨o,es,ep,k _ o (fun z=>(hf _ z).2.1 rfl) ho,r⟩
 ·by_cases hb:b=p
  ·subst hb
   rw[jJ3] at e
   cases e
   exact⟨hz,us,r,ht⟩
  ·rw[jJu hb] at e
   refine (I.hok b u e).stay (fun c v hc q=>k c v ?_ q) (fun c q=>by rw[jJu (tr c _ q)];exact q) fun c _ q=>by rw[jJu (tr c _ q)];exact q
   rcases hc with z | z
   ·rw[z];exact nit b u e
   ·exact nit c _ z
end
noncomputable def Ite (K:PySem.W.Frag) (a:Addr):It:=
 ⟨fun i H=>∃xs x,SqL K H a xs/\xs[i]? =some x,fun i H x H'=>∃p y,H p=none/\x= .ref p/\(∀xs,SqL K H a xs->xs[i]? =some y)/\H'=upd H p (.tup [.int i,y]),fun i H=>∃xs,SqL K H a xs/\xs.length<=i⟩
theorem kV3 {P:Program} {w:World} {K:PySem.W.Frag} {elts:List Expr} {k:Nat} {pos:Pos} (a e it:Addr) (hei:e≠it):
  Turn P w K (.Tuple elts k pos) (Ite K a) [e,it] e (fun i h=>(∃old,IsEnum h e it i old)/\h.IsListIter it a i) where
 mem:=by simp
 obj:=fun i h ⟨⟨old,h1⟩,h2⟩ b hb=>by
  have hb':b=e\/b=it:=by simpa using hb
  rcases hb' with z | z
  ·subst z;exact⟨_,h1,fun v z=>nomatch (show Data.fields _=Data.cell v from z)⟩
  ·subst z
   obtain⟨o,e2,c,d⟩:=h2
   exact⟨o,e2,fun v z=>by rw[d] at z;cases z⟩
 keep:=fun i h h' ⟨⟨old,h1⟩,h2⟩ kp=>⟨⟨old,kp e (by simp) _ h1⟩,h2.at fun o q=>kp it (by simp) o q⟩
 item:=by
  rintro X hP hw hK hc i pins s σ H E I hf ⟨⟨old,he⟩,hit⟩ hg
  subst hP hw hK
  obtain⟨xs,x,hq,hx⟩:=hg
  obtain⟨its,rv,p,hz⟩:=I.list hq
  obtain⟨u,hu,ru⟩:=rv.get hx
  refine wpAny_pyNext_enum_item he hit p.isList (x:=u) (by simpa using hu) hei fun h1 ho hit1 hT hsz hk=> ?_
  refine⟨_,rfl,wpAny_letOwnedTupleGo_enum ho fun h2 he2 hs2=> ?_⟩
  have hel:e<s.heap.objs.size:=Heap.lt_size he
  have hp2:∀b o,b∉[e,it]->s.heap.get? b=some o->h2.get? b=some o:=fun b o hb q=>by
   have hb1:b≠e:=fun z=>hb (by simp[z])
   have hb2:b≠it:=fun z=>hb (by simp[z])
   exact (hs2.2 b hb1).trans (hk b o hb1 hb2 q)
  have hT2:h2.get? s.heap.objs.size=some {cls:= .type "tuple",data:= .seq #[.int i s.toks,u]}:=(hs2.2 _ (Nat.ne_of_gt hel)).trans hT
  have I2:=jVf (t':=s.toks+1) (h':=h2) (p:=s.heap.objs.size) (vs:=[.int i,x]) (us:=[.int i s.toks,u]) I hp2 hf (Nat.le_refl _) ⟨_,hT2,rfl,_,rfl,rfl⟩ (.cons ⟨_,rfl⟩ (.cons ru .nil)) (by show 2<=sizeLine;decide)
  refine⟨.ref s.heap.objs.size,_,I2,rfl,⟨_,x,I.hok.fresh (Nat.le_refl _),rfl,fun ys hy=>by rw[I.list_inj hy hq];exact hx,rfl⟩,⟨⟨u,by simpa using he2⟩,hit1.at fun o q=>(hs2.2 it hei.symm).trans q⟩,fun b hb=> ?_⟩
  have hbs:∃o,s.heap.get? b=some o:=by
   have hb':b=e\/b=it:=by simpa using hb
   rcases hb' with z | z
   ·subst z;exact⟨_,he⟩
   ·subst z;obtain⟨o,q,_⟩:=hit;exact⟨o,q⟩
  obtain⟨o,q⟩:=hbs
  rw[jJu (Nat.ne_of_lt (Heap.lt_size q))]
  exact (hf b hb).1
 done:=by
  rintro X hP hw hK hc i pins s σ H E I hf ⟨⟨old,he⟩,hit⟩ hg
  subst hP hw hK
  obtain⟨xs,hq,hx⟩:=hg
  obtain⟨its,rv,p,hz⟩:=I.list hq
  have hl:=rv.length
  exact wpAny_pyNext_enum_end (I.ok.hd hc) he hit p.isList (by simp;omega) fun h1 hx1=>⟨rfl,jZv (t':=s.toks) I (fun b o hb q=>hx1 b o (fun z=>hb (by simp[z])) q) hf⟩
 self:=fun _ _ _ _ _ ⟨⟨old,he⟩,_⟩ h=>wpAny_pyIter_enum he h
def numT (xs:List T):List T:=(List.range xs.length).map fun (i:Nat)=>T.tup [.int i,xs.getD i .non]
theorem jVq {xs:List T} {i:Nat} {x:T} (h:xs[i]? =some x):(numT xs)[i]? =some (.tup [.int i,x]):=by
 have hi:i<xs.length:=by
  rcases Nat.lt_or_ge i xs.length with z | z
  ·exact z
  ·rw[List.getElem?_eq_none z] at h;cases h
 have hx:xs[i]=x:=(List.getElem?_eq_some_iff.mp h).2
 simp[numT,hi,List.getD,hx]
theorem jJ1 {xs:List T}:(numT xs).length=xs.length:=by simp[numT]
def jKw (G:Gp):T->Option (List T)
 | .ref p=>asL (G p)
 | .scr xs=>some xs
 | _=>none
theorem jQo {K:PySem.W.Frag} {H:Hp} {G:Gp} {x:T} {a:V} {xs:List T} (hg:GRel K H G) (r:Rep K H x a) (h:jKw G x=some xs):∃p vs,a= .ref p/\SqL K H p vs/\Reps K H xs vs:=by
 cases x with
 | scr ys=>cases h;obtain⟨p,vs,e,h1,h2⟩:=(show ∃p vs,a= .ref p/\FrL K H p vs/\Reps K H xs vs from r);exact⟨p,vs,e,h1.sq,h2⟩
 | ref p=>
  obtain⟨vs,h1,h2⟩:=hg.lst (jVw h)
  exact⟨p,vs,r,.of h1,h2⟩
 | tup _=>cases h
 | non=>cases h
 | bl _=>cases h
 | int _=>cases h
 | str _=>cases h
 | ty _=>cases h
def jZb (ta:TA3):TI3:=fun τ G R=>ta τ G fun vs G1=>∃x xs,vs=[x]/\jKw G1 x=some xs/\R (numT xs) (fun G'=>jKw G' x=some xs) G1
theorem kUm {X:Cx} {elts:List Expr} {k:Nat} {tpos pos p:Pos} {a:Expr} {ta:TA3} (hg:Gl X "enumerate") (hm:X.mg "enumerate"=none) (hv:bootBuiltins "enumerate"=some (.type "enumerate")) (ha:PA3 X [a] ta) (hs:starEach [a] X.env=[(false,eval a X.env)]:=by rfl):
  PI3 X (.Tuple elts k tpos) (.Call (.Name "enumerate" p) [a] [] pos) (jZb ta):=by
 intro pins s τ G H R I h
 obtain⟨σ0,I0,hs0,hg0⟩:=id I
 refine Call_ (jXh I0 hg hm hv (PyProof.Rows.callWith_type1 (thn (ha pos pins s τ G H _ I h) fun us s1 w_=>w_.el fun xs' G1 H1 e1 i_ r_ q1=>i_.el fun σ I1 hs1 hg1=>r_.el fun as ras rvs=> ?_) hs rfl))
 obtain⟨x,xs,e,hx,q⟩:=q1
 subst e
 obtain⟨v,rfl,rv⟩:=jUm ras
 obtain⟨u,rfl,ru⟩:=rvs.one
 obtain⟨pa,vs,rfl,hq,r⟩:=jQo hg1 rv hx
 cases ru
 obtain⟨its,rvv,pl,hz⟩:=I1.list hq
 refine call_enumerate_list pl.isList fun h1 he hit hsz hk=> ?_
 have I2:Inv X pins σ H1 {s1 with heap:=h1}:=I1.kept (t':=s1.toks) hk
 refine wpAny_pyIter_enum (Q:=PIE3 X pins τ H (.Tuple elts k tpos) R) he ?_
 have fr:∀b∈[s1.heap.objs.size+1,s1.heap.objs.size],FpOk X pins H1 b:=fun b hb=>by
  have hb':b=s1.heap.objs.size+1\/b=s1.heap.objs.size:=by simpa using hb
  have hle:s1.heap.objs.size<=b:=by omega
  exact I1.fpOk hle (I1.hok.fresh hle)
 refine⟨s1.heap.objs.size+1,[s1.heap.objs.size+1,s1.heap.objs.size],_,_,numT xs,fun G'=>jKw G' x=some xs,G1,H1,rfl,e1,⟨σ,I2,hs1,hg1⟩,kV3 pa _ _ (Nat.succ_ne_self _),⟨⟨.none,he⟩,hit⟩,fr,?_,q⟩
 intro i H2 G2 e2 g2 st
 obtain⟨pb,ws,eb,h1,h2⟩:=jQo g2 (Rep.mono e2 _ rv) st
 cases eb
 have hlen:=h2.length
 refine⟨fun hi=> ?_,fun hi=>⟨ws,h1,by rw[jJ1] at hi;omega⟩,fun hi y H' ⟨pp,z,hn,ey,hy,eH⟩=> ?_⟩
 ·rw[jJ1] at hi
  exact⟨ws,ws[i]'(by omega),h1,by simp[hlen▸hi]⟩
 ·subst ey;subst eH
  obtain⟨t,ht,rt⟩:=h2.get' (hy ws h1)
  exact⟨.upd (.none hn),g2.tupNew hn,_,jVq ht,Rep.tupNew ⟨_,_,rfl,rfl,_,_,rfl,rt,rfl⟩ hn⟩
noncomputable def clGo (env:Env):List (Str×NameKind)->List (Str×Addr)->Option (List (Str×Addr))
 | [],cs=>some cs
 | (n,k)::r,cs=>if (k == .free)=true then (match env.cells.lookup n with | some c=>clGo env r ((n,c)::cs) | none=>none) else clGo env r cs
theorem jXb {scope:Scope} {env:Env} {cl:List (Str×Addr)} (h:clGo env scope.names []=some cl):closureFor scope env=pure cl:=by
 unfold closureFor
 have go:∀(names:List (Str×NameKind)) (cs:List (Str×Addr)),clGo env names cs=some cl->
   (forIn names cs fun (x:Str×NameKind) (r:List (Str×Addr))=>(match x with | (nm,kd)=>if (kd == .free)=true then cellOf env nm >>= fun a=>pure (ForInStep.yield ((nm,a)::r)) else pure (ForInStep.yield r):Sem (ForInStep (List (Str×Addr)))))=pure cl:=by
  intro names
  induction names with
  | nil=>intro cs e;cases e;rfl
  | cons x r ih=>
   obtain⟨n,k⟩:=x
   intro cs e
   unfold clGo at e
   rw[List.forIn_cons]
   by_cases hk:(k == NameKind.free)=true
   ·rw[if_pos hk] at e
    cases hc:env.cells.lookup n with
    | none=>rw[hc] at e;cases e
    | some c=>
     rw[hc] at e
     have hco:cellOf env n=pure c:=by unfold cellOf;rw[hc]
     simp only[hk,if_true,hco,pure_bind]
     exact ih _ e
   ·rw[if_neg hk] at e
    simp only[hk,pure_bind,if_false,Bool.false_eq_true]
    exact ih _ e
 have:=go scope.names [] h
 simpa using this
theorem jUz {env:Env} {cl:List (Str×Addr)}:∀ {names:List (Str×NameKind)} {cs:List (Str×Addr)},clGo env names cs=some cl->(∀n c,cs.lookup n=some c->env.cells.lookup n=some c)->∀n c,cl.lookup n=some c->env.cells.lookup n=some c
 | [],cs,e,h=>by cases e;exact h
 | (n,k)::r,cs,e,h=>by
  unfold clGo at e
  by_cases hk:(k == NameKind.free)=true
  ·rw[if_pos hk] at e
   cases hc:env.cells.lookup n with
   | none=>rw[hc] at e;cases e
   | some c=>
    rw[hc] at e
    refine jUz e fun m d q=> ?_
    rw[List.lookup_cons] at q
    by_cases hm:(m == n)=true
    ·rw[hm] at q;cases q;rw[eq_of_beq hm];exact hc
    ·simp only[hm] at q;exact h m d q
  ·rw[if_neg hk] at e
   exact jUz e h
theorem jYw {env:Env} {cl:List (Str×Addr)} {m:Str}:∀ {names:List (Str×NameKind)} {cs:List (Str×Addr)},clGo env names cs=some cl->(∃c,cs.lookup m=some c)->∃c,cl.lookup m=some c
 | [],cs,e,h=>by cases e;exact h
 | (n,k)::r,cs,e,h=>by
  unfold clGo at e
  by_cases hk:(k == NameKind.free)=true
  ·rw[if_pos hk] at e
   cases hc:env.cells.lookup n with
   | none=>rw[hc] at e;cases e
   | some c=>
    rw[hc] at e
    refine jYw e ?_
    rw[List.lookup_cons]
    by_cases hm:(m == n)=true
    ·rw[hm];exact⟨_,rfl⟩
    ·simp only[hm];exact h
  ·rw[if_neg hk] at e
   exact jYw e h
theorem jU0 {env:Env} {cl:List (Str×Addr)} {m:Str}:∀ {names:List (Str×NameKind)} {cs:List (Str×Addr)},clGo env names cs=some cl->names.lookup m=some .free->∃c,cl.lookup m=some c
 | [],cs,e,h=>by simp at h
 | (n,k)::r,cs,e,h=>by
  unfold clGo at e
  rw[List.lookup_cons] at h
  by_cases hm:(m == n)=true
  ·rw[hm] at h
   cases h
   rw[if_pos (show (NameKind.free == NameKind.free)=true from rfl)] at e
   cases hc:env.cells.lookup n with
   | none=>rw[hc] at e;cases e
   | some c=>
    rw[hc] at e
    refine jYw e ?_
    rw[List.lookup_cons,hm];exact⟨_,rfl⟩
  ·simp only[hm] at h
   by_cases hk:(k == NameKind.free)=true
   ·rw[if_pos hk] at e
    cases hc:env.cells.lookup n with
    | none=>rw[hc] at e;cases e
    | some c=>rw[hc] at e;exact jU0 e h
   ·rw[if_neg hk] at e
    exact jU0 e h
theorem jQm {env:Env} {x:Str}:∀ {names:List (Str×NameKind)},(∀y∈names,y.2≠ .cell)->
  ((names.map fun (n,k)=>if (k == NameKind.free&&env.scope.kind == .function&&env.kindOf n == some .cell) then (n,NameKind.cell) else (n,k)).lookup x=some .cell\/
    (names.map fun (n,k)=>if (k == NameKind.free&&env.scope.kind == .function&&env.kindOf n == some .cell) then (n,NameKind.cell) else (n,k)).lookup x=some .free)->names.lookup x=some .free
 | [],_,h=>by simp at h
 | (n,k)::r,hc,h=>by
  have ih:= @jQm env x r (fun y hy=>hc y (List.mem_cons_of_mem _ hy))
  have hk:=hc (n,k) List.mem_cons_self
  rw[List.map_cons] at h
  rw[List.lookup_cons]
  by_cases hx:(x == n)=true
  ·rw[hx]
   by_cases hf:(k == NameKind.free&&env.scope.kind == .function&&env.kindOf n == some .cell)=true
   ·have:(k == NameKind.free)=true:=by
     rw[Bool.and_eq_true,Bool.and_eq_true] at hf;exact hf.1.1
    rw[eq_of_beq this]
   ·simp only[hf,if_false,Bool.false_eq_true,List.lookup_cons,hx] at h
    rcases h with h | h
    ·cases h;exact absurd rfl hk
    ·cases h;rfl
  ·simp only[hx]
   refine ih ?_
   by_cases hf:(k == NameKind.free&&env.scope.kind == .function&&env.kindOf n == some .cell)=true
   ·simpa only[hf,if_true,List.lookup_cons,hx] using h
   ·simpa only[hf,if_false,Bool.false_eq_true,List.lookup_cons,hx] using h
theorem jKi {env:Env} {x:Str}:∀ {names:List (Str×NameKind)},
  (names.map fun (n,k)=>if (k == NameKind.free&&env.scope.kind == .function&&env.kindOf n == some .cell) then (n,NameKind.cell) else (n,k)).lookup x=some .local->names.lookup x=some .local
 | [],h=>by simp at h
 | (n,k)::r,h=>by
  have ih:= @jKi env x r
  rw[List.map_cons] at h
  rw[List.lookup_cons]
  by_cases hx:(x == n)=true
  ·rw[hx]
   by_cases hf:(k == NameKind.free&&env.scope.kind == .function&&env.kindOf n == some .cell)=true
   ·simp only[hf,if_true,List.lookup_cons,hx] at h;cases h
   ·simp only[hf,if_false,Bool.false_eq_true,List.lookup_cons,hx] at h;exact h
  ·simp only[hx]
   refine ih ?_
   by_cases hf:(k == NameKind.free&&env.scope.kind == .function&&env.kindOf n == some .cell)=true
   ·simpa only[hf,if_true,List.lookup_cons,hx] using h
   ·simpa only[hf,if_false,Bool.false_eq_true,List.lookup_cons,hx] using h
noncomputable def jQ1 (X:Cx) (scope:Scope) (cl:List (Str×Addr)) (C:Addr) (fp:List Addr) (s:Shared) (H:Hp):Cx:=
 {X with env:=compEnvC scope cl C X.env,s₀:=s,H₀:=H,outer:=X.stack,stack:=X.stack,ex:=fp,fn:=fun _=>false,pn:=[],xe:=fun _ _=>False}
structure CmpOk (X:Cx) (scope:Scope) (cl:List (Str×Addr)) (mask:List Bool):Prop where
 cl:clGo X.env scope.names []=some cl
 kind:scope.kind= .function
 nocell:(scope.names.all fun y=>y.2 != .cell)=true
 names:(scope.names.all fun y=>y.2 != .local||scope.names.lookup y.1 == some .local)=true
 vis:(scope.names.all fun y=>y.2 != .free||X.env.kindOf y.1 == some .cell||X.env.kindOf y.1 == some .free)=true
 len:mask.length=X.N.length
 mask:((X.N.zip mask).all fun p=>p.2||scope.names.lookup p.1 != some .local)=true
def msk {α:Type} (mask:List Bool) (τ:List (Option α)):List (Option α):=List.zipWith (fun b o=>if b=true then none else o) mask τ
theorem jYj {α:Type} {mask:List Bool} {τ:List (Option α)} {i:Nat} {t:α} (h:(msk mask τ)[i]? =some (some t)):mask[i]? =some false/\τ[i]? =some (some t):=by
 unfold msk at h
 rw[List.getElem?_zipWith] at h
 cases hm:mask[i]? with
 | none=>exact absurd (hm▸h) (by simp)
 | some b=>
  cases ht:τ[i]? with
  | none=>rw[hm,ht] at h;cases h
  | some o=>
   rw[hm,ht] at h
   cases b with
   | true=>simp at h
   | false=>simp at h;exact⟨rfl,by rw[h]⟩
theorem jQ9 {α:Type} {mask:List Bool} {τ:List (Option α)} (h:mask.length=τ.length):(msk mask τ).length=τ.length:=by
 unfold msk;rw[List.length_zipWith,h,Nat.min_self]
theorem kJg {K:PySem.W.Frag} {H:Hp} {σ:L2.St} {τ:St3} {mask:List Bool} (h:SRel K H σ τ) (hl:mask.length=τ.length):SRel K H (msk mask σ) (msk mask τ):=by
 refine⟨by rw[jQ9 hl,jQ9 (hl.trans h.1.symm),h.1],fun i t q=> ?_⟩
 obtain⟨h1,h2⟩:=jYj q
 obtain⟨v,h3,h4⟩:=h.2 i t h2
 refine⟨v,?_,h4⟩
 unfold msk
 rw[List.getElem?_zipWith,h1,h3]
 simp
section
variable {X:Cx} {scope:Scope} {cl:List (Str×Addr)} {mask:List Bool}
theorem CmpOk.local (c:CmpOk X scope cl mask) {i:Nat} {x:Str} (h1:X.N[i]? =some x) (h2:mask[i]? =some false):scope.names.lookup x≠some .local:=by
 have h:=c.mask
 rw[List.all_eq_true] at h
 have hz:(X.N.zip mask)[i]? =some (x,false):=by rw[List.getElem?_zip_eq_some];exact⟨h1,h2⟩
 have:=h _ (List.mem_of_getElem? hz)
 simpa using this
theorem CmpOk.free (c:CmpOk X scope cl mask) {x:Str} (h:scope.names.lookup x=some .free):X.env.kindOf x=some .cell\/X.env.kindOf x=some .free:=by
 have hv:=c.vis
 rw[List.all_eq_true] at hv
 have:=hv (x,.free) (PySem.mem_of_lookup h)
 simpa using this
theorem CmpOk.nc (c:CmpOk X scope cl mask):∀y∈scope.names,y.2≠ .cell:=by
 have hv:=c.nocell
 rw[List.all_eq_true] at hv
 intro y hy
 simpa using hv y hy
theorem CmpOk.nm (c:CmpOk X scope cl mask):∀y∈scope.names,y.2= .local->scope.names.lookup y.1=some .local:=by
 have hv:=c.names
 rw[List.all_eq_true] at hv
 intro y hy e
 have:=hv y hy
 rw[e] at this
 simpa using this
theorem kZa (c:CmpOk X scope cl mask) {pins:List (Addr×Obj)} {σ:L2.St} {H:Hp} {s:Shared} {fp:List Addr} {h4:Heap} {tk:Nat} (I:Inv X pins σ H s) (hf:∀b∈fp,FpOk X pins H b) (ho:∀b∈fp,∃o,s.heap.get? b=some o)
  (hns:h4.Ns s.heap.objs.size fun _=>none) (hk:∀b o,s.heap.get? b=some o->h4.get? b=some o):
  Inv (jQ1 X scope cl s.heap.objs.size fp s H) [] (msk mask σ) H {s with heap:=h4,toks:=tk}:=by
 have sub:=jUz c.cl (by simp)
 have ok:(jQ1 X scope cl s.heap.objs.size fp s H).Ok:=by
  refine⟨I.ok.mod,c.kind,I.ok.glob,I.ok.blt,Nat.le_refl _,fun x y d h1 h2=>I.ok.inj x y d (sub _ _ h1) (sub _ _ h2),fun x hx=>jU0 c.cl (jQm (env:=X.env) c.nc hx),fun x d hx=>absurd (show false=true from hx) Bool.false_ne_true,I.ok.hd,I.ok.gd,I.ok.frames,.inl rfl,
   fun b hb=> ?_,I.bs,Nat.le_trans I.ok.bsz I.sz,fun b o e hb=> ?_,fun b hb hz=> ?_,I.stack,I.stkFree⟩
  ·obtain⟨o,e⟩:=ho b hb
   exact⟨Nat.ne_of_lt (Heap.lt_size e),fun x d hd=>(hf b hb).2.2.2.2.1 x d (sub _ _ hd)⟩
  ·rcases (hf b hb).2.2.2.1 with z | z
   ·exact I.ok.noex b o e z
   ·exact absurd (Nat.lt_of_lt_of_le (Heap.lt_size e) I.ok.bsz) (Nat.not_lt.mpr z)
  ·rcases List.mem_cons.mp (I.stkSub b hz) with z | z
   ·exact (hf b hb).2.1 z
   ·exact (hf b hb).2.2.1 z
 refine⟨ok,rfl,I.bare,Un.kept hk,⟨_,hns,fun i x v h1 h2 h3=> ?_⟩,fun x d hd=> ?_,I.hok.fresh (Nat.le_refl _),fun x d hd=>I.freeC x d (sub _ _ hd),fun p hp=>absurd (show p∈([]:List (Addr×Obj)) from hp) (by simp),I.hok.kept hk,?_⟩
 ·obtain⟨m1,m2⟩:=jYj h2
  have nl:=c.local h1 m1
  have fr:scope.names.lookup x=some .free:=by
   rcases h3 with z | z | z
   ·exact absurd (jKi (env:=X.env) z) nl
   ·exact jQm (env:=X.env) c.nc (.inl z)
   ·exact jQm (env:=X.env) c.nc (.inr z)
  have hkk:=c.free fr
  obtain⟨m,hn,hl⟩:=I.loc
  have vis:Vis X.env.scope x:=by rcases hkk with z | z;exact .inr (.inl z);exact .inr (.inr z)
  obtain⟨u,ru,lk⟩:=hl i x v h1 m2 vis
  refine⟨u,ru,?_⟩
  rcases lk with ⟨z,_⟩ | ⟨_,d,hd,cd⟩
  ·exfalso;rcases hkk with q | q<;>(rw[z] at q;cases q)
  ·obtain⟨d',hd'⟩:=jU0 c.cl fr
   have:d'=d:=by have:=sub _ _ hd';rw[hd] at this;exact (Option.some.inj this).symm
   subst this
   refine .inr ⟨?_,d',hd',cd.keeps hk⟩
   rcases h3 with z | z | z
   ·exact absurd (jKi (env:=X.env) z) nl
   ·exact .inl z
   ·exact .inr z
 ·obtain⟨v,hv⟩:=I.cell x d (sub _ _ hd)
  exact⟨v,hv.keeps hk⟩
 ·exact (jQ9 (c.len.trans I.len.symm)).trans I.len
theorem qUw {pins:List (Addr×Obj)} {σ σ':L2.St} {H H':Hp} {s s':Shared} {fp:List Addr} {pl:List (Addr×Obj)} {C:Addr} (I:Inv X pins σ H s) (hf:∀b∈fp,FpOk X pins H b) (hC:s.heap.objs.size<=C)
  (J:Inv (jQ1 X scope cl C fp s H) pl σ' H' s') {h':Heap} (hb:Heap.SameBut C s'.heap h'):Inv X pins σ H' {s' with heap:=h'}:=by
 have ne:∀b o,s.heap.get? b=some o->b≠C:=fun b o e=>Nat.ne_of_lt (Nat.lt_of_lt_of_le (Heap.lt_size e) hC)
 have u:=J.base
 have hfree:H' C=none:=J.free
 have u':Un (frs X.stack) fp H H' s.heap h':=⟨fun b o e n hb' hx=>(hb.2 b (ne b o e)).trans (u.keep b o e n hb' hx),fun b o e n hb' hx=>let ⟨sl,z⟩:=u.slot b o e n hb' hx;⟨sl,(hb.2 b (ne b o e)).trans z⟩,
  u.free,fun b o e hx=>let ⟨o',z⟩:=u.there b o e hx;⟨o',(hb.2 b (ne b o e)).trans z⟩,u.tups,u.frzs,u.tbls⟩
 have hok:HOk X.prog X.w H' h':=fun b ob e=>(J.hok b ob e).stay (fun c w' hc q=>(hb.2 c (by
  rintro rfl
  rcases hc with rfl | hc
  ·rw[hfree] at e;cases e
  ·rw[hfree] at hc;cases hc)).trans q) (fun _ q=>q) fun _ _ q=>q
 exact I.call' (s':={s' with heap:=h'}) J.os u' hok J.bare fun b hb=>⟨(hf b hb).2.2.2.1,(hf b hb).2.1,(hf b hb).2.2.2.2.1,(hf b hb).2.2.2.2.2⟩
end
abbrev kY9 (ifs:List Expr) (env:Env):Sem Bool:=forIn ifs true fun c b=>if b=true then isTrue c env (eval c env) >>= fun d=>pure (ForInStep.yield d) else pure (ForInStep.yield b)
noncomputable def qKe (M:Model) (A:Around) (elt tg:Expr) (ifs:List Expr) (it acc:Value) (env:Env) (stop more:Shared->Prop):Option Value->Shared->Prop
 | none=>stop
 | some v=>fun z=>wpAny M A (letOwnedTupleGo tg it v) (fun _ z1=>wpAny M A (assign tg env v) (fun _ z2=>wpAny M A (kY9 ifs env) (fun ok z3=>if ok=true then wpAny M A (eval elt env) (fun x z4=>wpAny M A (call (.builtin "list.append") [acc,x]) (fun _=>more) (fun _ _=>False) z4) (fun _ _=>False) z3 else more z3) (fun _ _=>False) z2) (fun _ _=>False) z1) (fun _ _=>False) z
theorem kKh {P:Program} {w:World} {A:Around} {R:Result->Shared->Prop} {s:Shared} {elt tg iter:Expr} {ifs:List Expr} {scope:Scope} {pos:Pos} {it acc:Value} {env:Env} (I:Nat->Shared->Prop)
  (turn:∀k z,I k z->wpAny (model P w) A (pyNext it) (qKe (model P w) A elt tg ifs it acc env (R (.ok .next)) fun z'=>∃m,m<k/\I m z') (fun _ _=>False) z) (n:Nat) (h:I n s):codeAny (model P w) A (.compLoop (.ListComp elt [⟨tg,iter,ifs,0⟩] scope pos) 0 it acc env) R s:=by
 refine codeAny_loop rfl I (fun k z hz=>(show wpAny _ A ((compTurn (.ListComp elt [⟨tg,iter,ifs,0⟩] scope pos) 0 it acc env).onRaise _) _ _ z from wpAny_noted ?_)) n h
 rw[compTurn_list]
 refine wpAny_bind (wpAny_standAt (wpAny_bind (wpAny_mono (turn k z hz) (fun r z1 h1=> ?_) fun _ _ e=>e.elim)))
 cases r with
 | none=>exact wpAny_pure h1
 | some v=>
  refine wpAny_bind (wpAny_mono h1 (fun _ z2 h2=>wpAny_bind (wpAny_mono h2 (fun _ z3 h3=>wpAny_bind (wpAny_mono h3 (fun ok z4 h4=> ?_) fun _ _ e=>e.elim)) fun _ _ e=>e.elim)) fun _ _ e=>e.elim)
  by_cases hok:ok=true
  ·subst hok
   exact wpAny_bind (wpAny_bind (wpAny_mono h4 (fun x z5 h5=>wpAny_bind (wpAny_mono h5 (fun _ z6 h6=>wpAny_pure (wpAny_pure ⟨rfl,h6⟩)) fun _ _ e=>e.elim)) fun _ _ e=>e.elim))
  ·obtain rfl:ok=false:=by simpa using hok
   exact wpAny_pure ⟨rfl,h4⟩
noncomputable def PIf3 (X:Cx) (ifs:List Expr) (t:TT3):Prop:=∀(pins:List (Addr×Obj)) (s:Shared) (τ:St3) (G:Gp) (H:Hp) (Q:Bool->Gp->Prop),Inv3 X pins τ G H s->t τ G Q->
 wpAny (model X.prog X.w) X.A (forIn ifs true fun c r=>if r=true then do let ok <-isTrue c X.env (eval c X.env);pure (ForInStep.yield ok) else pure (ForInStep.yield r)) (TP3 X pins τ H Q) X.xe s
def jQj:TT3:=fun _ G Q=>Q true G
theorem jK7 {X:Cx}:PIf3 X [] jQj:=fun _ _ _ G H _ I q=>wpAny_tests_nil ⟨G,H,.refl H,I,q⟩
theorem kYm {X:Cx} {c:Expr} {t:TT3} (h:PT3 X c t):PIf3 X [c] t:=fun pins s τ G H Q I q=>wpAny_tests_one (h pins s τ G H Q I q)
def kKx (mask:List Bool) (g:TG3):Prop:=∀v τ G Q,g v τ G Q->g v τ G fun τ2 G2=>Q τ2 G2/\τ2.length=τ.length/\∀i:Nat,mask[i]? ≠some true->τ2[i]? =τ[i]?
def kU2 (mask:List Bool) (g:TGs3):Prop:=∀v τ G Q,g v τ G Q->g v τ G fun τ2 G2=>Q τ2 G2/\τ2.length=τ.length/\∀i:Nat,mask[i]? ≠some true->τ2[i]? =τ[i]?
theorem jJx {mask:List Bool} {i:Nat} (h:mask[i]? =some true:=by rfl):kKx mask (jJg i):=fun v τ G Q q=>
 ⟨q,List.length_set ..,fun j hj=>List.getElem?_set_ne (by rintro rfl;exact hj h)⟩
theorem kUo {mask:List Bool}:kU2 mask gNil:=fun v τ G Q ⟨e,q⟩=>⟨e,q,rfl,fun _ _=>rfl⟩
theorem jUq {mask:List Bool} {t:TG3} {u:TGs3} (h1:kKx mask t) (mono:∀v τ G Q Q',(∀a b,Q a b->Q' a b)->t v τ G Q->t v τ G Q') (h2:kU2 mask u) (mono2:∀v τ G Q Q',(∀a b,Q a b->Q' a b)->u v τ G Q->u v τ G Q'):kU2 mask (jKg t u):=fun vs τ G Q ⟨v,r,e,q⟩=>by
 refine⟨v,r,e,mono _ _ _ _ _ (fun τ2 G2 ⟨z,l1,k1⟩=> ?_) (h1 _ _ _ _ q)⟩
 exact mono2 _ _ _ _ _ (fun τ3 G3 ⟨z3,l3,k3⟩=>⟨z3,l3.trans l1,fun i hi=>(k3 i hi).trans (k1 i hi)⟩) (h2 _ _ _ _ z)
theorem jK6 {i:Nat}:∀v τ G (Q Q':St3->Gp->Prop),(∀a b,Q a b->Q' a b)->jJg i v τ G Q->jJg i v τ G Q':=fun _ _ _ _ _ h q=>h _ _ q
theorem jXk:∀v τ G (Q Q':St3->Gp->Prop),(∀a b,Q a b->Q' a b)->gNil v τ G Q->gNil v τ G Q':=fun _ _ _ _ _ h q=>⟨q.1,h _ _ q.2⟩
theorem kJj {t:TG3} {u:TGs3} (m1:∀v τ G (Q Q':St3->Gp->Prop),(∀a b,Q a b->Q' a b)->t v τ G Q->t v τ G Q') (m2:∀v τ G (Q Q':St3->Gp->Prop),(∀a b,Q a b->Q' a b)->u v τ G Q->u v τ G Q'):
  ∀v τ G (Q Q':St3->Gp->Prop),(∀a b,Q a b->Q' a b)->jKg t u v τ G Q->jKg t u v τ G Q':=fun _ _ _ _ _ h ⟨v,r,e,q⟩=>⟨v,r,e,m1 _ _ _ _ _ (fun _ _ z=>m2 _ _ _ _ _ h z) q⟩
theorem kUn {mask:List Bool} {n:Nat} {u:TGs3} (h:kU2 mask u):kKx mask (gTup n u):=fun v τ G Q ⟨xs,e,l,q⟩=>⟨xs,e,l,h _ _ _ _ q⟩
theorem kUb {mask:List Bool} {τ τ2:St3} (hl:mask.length=τ.length) (l:τ2.length=(msk mask τ).length) (h:∀i:Nat,mask[i]? ≠some true->τ2[i]? =(msk mask τ)[i]?):msk mask τ2=msk mask τ:=by
 have ll:=jQ9 hl
 apply List.ext_getElem?
 intro i
 unfold msk at h ⊢
 rw[List.getElem?_zipWith,List.getElem?_zipWith]
 cases hm:mask[i]? with
 | none=>rfl
 | some b=>
  cases b with
  | true=>
   have h1:i<mask.length:=by
    rcases Nat.lt_or_ge i mask.length with z | z
    ·exact z
    ·rw[List.getElem?_eq_none z] at hm;cases hm
   have h2:i<τ2.length:=by omega
   have h3:i<τ.length:=by omega
   rw[List.getElem?_eq_getElem h2,List.getElem?_eq_getElem h3]
   simp
  | false=>
   have:=h i (by rw[hm];simp)
   rw[List.getElem?_zipWith,hm] at this
   rw[this]
   cases τ[i]? with
   | none=>rfl
   | some o=>simp
noncomputable def jZz (mask:List Bool) (g:TG3) (tif:TT3) (te:TE3) (τ:St3) (xs:List T) (stay:Gp->Prop) (G:Gp) (Q:VK3):Prop:=
 ∀D,G D=none->∃P:Nat->List T->Gp->Prop,P 0 [] (gup G D (.lst []))/\(∀i acc G,i<=xs.length->P i acc G->stay G/\G D=some (.lst acc))/\
  (∀i x acc G,xs[i]? =some x->P i acc G->g x (msk mask τ) G fun τ2 G2=>tif τ2 G2 fun b G3=>if b=true then te τ2 G3 fun y G4=>G4 D=some (.lst acc)/\acc.length<sizeLine/\P (i+1) (acc++[y]) (gup G4 D (.lst (acc++[y]))) else P (i+1) acc G3)/\
  ∀acc G,P xs.length acc G->Q (.ref D) G
def jKm (mask:List Bool) (wi:TI3) (g:TG3) (tif:TT3) (te:TE3):TE3:=fun τ G Q=>wi τ G fun xs stay G1=>jZz mask g tif te τ xs stay G1 Q
section
variable {X:Cx} {scope:Scope} {cl:List (Str×Addr)} {mask:List Bool} {elt iter tg:Expr} {ifs:List Expr} {pos:Pos} {wi:TI3} {g:TG3} {tif:TT3} {te:TE3}
theorem jZo (hc:X.calm=true) (ok:CmpOk X scope cl mask)
  (hgk:kKx mask g) (hg:∀C fp s H,PG3 (jQ1 X scope cl C fp s H) tg g) (hif:∀C fp s H,PIf3 (jQ1 X scope cl C fp s H) ifs tif) (he:∀C fp s H,PE3 (jQ1 X scope cl C fp s H) elt te)
  {pins:List (Addr×Obj)} {τ:St3} {H:Hp} {Q:VK3} {itv:Value} {s2:Shared} {E:Value->Shared->Prop} {RR:Value->Addr->Result->Shared->Prop}
  (h2:PIE3 X pins τ H tg (fun xs stay G=>jZz mask g tif te τ xs stay G Q) itv s2)
  (hRR:∀D C s' m,s'.heap.Ns C m->(∃G1 H1,Ext H H1/\H1 C=none/\Q (.ref D) G1/\∀h',Heap.SameBut C s'.heap h'->Inv3 X pins τ G1 H1 {s' with heap:=h'})->(∃oC,s'.heap.get? C=some oC/\C≠X.env.locals/\C∉X.fs/\∀v,oC.data≠ .cell v)->(∀x c,X.env.cells.lookup x=some c->c≠C)->(∀p∈X.pn++pins,p.1≠C)->X.s₀.heap.objs.size<=C->RR (.ref D) C (.ok .next) s'):
  wpAny (model X.prog X.w) X.A (newList []) (fun acc s₃=>wpAny (model X.prog X.w) X.A (newFunctionEnv scope X.env.globals cl [] X.env.qual none .none (some X.env)) (fun cenv s₄=>
   codeAny (model X.prog X.w) X.A (.compStart (.ListComp elt [⟨tg,iter,ifs,0⟩] scope pos) 0 itv acc {cenv with scope:=relabel scope X.env}) (RR acc cenv.locals) s₄) E s₃) E s2:=by
 obtain⟨it,fp,tn,J,xs,stay,G2,H2,e,eH,⟨σ,I2,hs2,hg2⟩,T0,st2,f2,IT,hq⟩:=h2
 subst e
 refine wpAny_newObj_type (wpAny_newFunctionEnv ok.nc (by intro y hy;simp at hy) (fun h4 hns hsb=> ?_) ok.kind)
 dsimp only at hns hsb ⊢
 have hD:H2 s2.heap.objs.size=none:=I2.hok.fresh (Nat.le_refl _)
 generalize hs3:({s2 with heap:=s2.heap.push {cls:= .type "list",dict:=none,data:= .seq ([]:List Value).toArray} }:Shared)=s3
 have eh3:s2.heap.push {cls:= .type "list",dict:=none,data:= .seq ([]:List Value).toArray}=s3.heap:=by rw[<-hs3]
 have I3:Inv X pins σ (upd H2 s2.heap.objs.size (.lst [])) s3:=by
  rw[<-hs3]
  exact I2.laid (t':=s2.toks) (fun b u e=>Heap.get?_push_of_some _ e) (Nat.le_refl _) ⟨Nat.zero_le _,[],0,.nil,Heap.get?_push_size _ rfl⟩
 rw[eh3] at hns hsb ⊢
 generalize hDd:s2.heap.objs.size=D at *
 have e3:Ext H2 (upd H2 D (.lst [])):= .upd (.none hD)
 have hg3:GRel X.K (upd H2 D (.lst [])) (gup G2 D (.lst [])):=hg2.lstNew (show Reps X.K H2 [] [] from rfl) (.none hD)
 have obj2:∀b∈fp,∃o,s2.heap.get? b=some o:=fun b hb=>let ⟨o,e,_⟩:=T0.obj 0 _ st2 b hb;⟨o,e⟩
 have fD:∀b∈fp,b≠D:=fun b hb=>by obtain⟨o,e⟩:=obj2 b hb;rw[<-hDd];exact Nat.ne_of_lt (Heap.lt_size e)
 have f3:∀b∈fp,FpOk X pins (upd H2 D (.lst [])) b:=fun b hb=>⟨by rw[jJu (fD b hb)];exact (f2 b hb).1,(f2 b hb).2⟩
 have k3:∀b o,s2.heap.get? b=some o->s3.heap.get? b=some o:=fun b o e=>by rw[<-eh3];exact Heap.get?_push_of_some _ e
 have obj3:∀b∈fp,∃o,s3.heap.get? b=some o:=fun b hb=>let ⟨o,e⟩:=obj2 b hb;⟨o,k3 b o e⟩
 have k4:∀b o,s3.heap.get? b=some o->h4.get? b=some o:=fun b o e=>hsb.extBut b o (Nat.ne_of_lt (Heap.lt_size e)) (Heap.get?_push_of_some _ e)
 have Ic:Inv (jQ1 X scope cl s3.heap.objs.size fp s3 (upd H2 D (.lst []))) [] (msk mask σ) (upd H2 D (.lst [])) {s3 with heap:=h4,toks:=s3.toks+([]:List (Str×Value)).length}:=kZa ok I3 f3 obj3 hns k4
 have st4:tn 0 h4:=T0.keep _ _ _ st2 fun b _ o e=>k4 b o (k3 b o e)
 have hl3:mask.length=τ.length:=ok.len.trans (I3.len.symm.trans hs2.1)
 obtain⟨P,p0,hst,turn,fin⟩:=hq D (hg2.fresh hD)
 have fpc:∀ {H':Hp} {pl:List (Addr×Obj)},(∀b∈fp,H' b=none)->(∀p∈pl,p.1∉fp)->∀b∈fp,FpOk (jQ1 X scope cl s3.heap.objs.size fp s3 (upd H2 D (.lst []))) pl H' b:=fun {H' pl} hn hp b hb=>by
  obtain⟨o,e⟩:=obj3 b hb
  refine⟨hn b hb,Nat.ne_of_lt (Heap.lt_size e),?_,.inl hb,fun x d hd=>(f3 b hb).2.2.2.2.1 x d (jUz ok.cl (by simp) _ _ hd),fun p hpp z=> ?_⟩
  ·intro z
   rcases List.mem_cons.mp (I3.stkSub b z) with q | q
   ·exact (f3 b hb).2.1 q
   ·exact (f3 b hb).2.2.1 q
  ·have hpp':p∈pl:=by simpa[jQ1] using hpp
   exact hp p hpp' (z▸hb)
 have loop:∀s4:Shared,s4={s3 with heap:=h4,toks:=s3.toks+([]:List (Str×Value)).length}->
   codeAny (model X.prog X.w) X.A (.compLoop (.ListComp elt [⟨tg,iter,ifs,0⟩] scope pos) 0 (.ref it) (.ref D) (compEnvC scope cl s3.heap.objs.size X.env)) (RR (.ref D) s3.heap.objs.size) s4:=by
  rintro s4 rfl
  refine kKh (fun n s'=>∃i acc G' H',n=xs.length-i/\i<=xs.length/\Ext H2 H'/\Inv3 (jQ1 X scope cl s3.heap.objs.size fp s3 (upd H2 D (.lst []))) [] (msk mask τ) G' H' s'/\tn i s'.heap/\(∀b∈fp,H' b=none)/\P i acc G') ?_ xs.length
   ⟨0,[],_,_,rfl,Nat.zero_le _,e3,⟨_,Ic,kJg (hs2.mono e3) hl3,hg3⟩,st4,fun b hb=>(f3 b hb).1,p0⟩
  rintro n s5 ⟨i,acc,G5,H5,en,hi5,e5,⟨σ5,I5,hs5,hg5⟩,st5,fr5,p5⟩
  obtain⟨hstay,hacc⟩:=hst i acc G5 hi5 p5
  obtain⟨go,stop,yl⟩:=IT i H5 G5 e5 hg5 hstay
  by_cases hlt:i<xs.length
  ·refine thn (T0.item (jQ1 X scope cl s3.heap.objs.size fp s3 (upd H2 D (.lst []))) rfl rfl rfl hc i [] s5 σ5 H5 (fun _ _=>False) I5 (fpc fr5 (by simp)) st5 (go hlt)) fun r s6 ⟨u,hr,h6⟩=> ?_
   subst hr
   refine thn h6 fun _ s7 ⟨x,H7,I7,r7,y7,st7,fr7⟩=> ?_
   obtain⟨e7,g7,t,ht,rt⟩:=yl hlt x H7 y7
   have I7':=I7.pinned (fpc fr7 (by simp)) (T0.obj _ _ st7)
   refine thn (hg _ _ _ _ ([]++jQh fp s7.heap) s7 (msk mask τ) G5 H7 t u _ ⟨σ5,I7',hs5.mono e7,g7⟩ ⟨x,rt,r7⟩ (hgk _ _ _ _ (turn i t acc G5 ht p5))) fun _ s8 ⟨τ8,G8,H8,e8,I8,q8,ql8,qk8⟩=> ?_
   refine thn (hif _ _ _ _ ([]++jQh fp s7.heap) s8 τ8 G8 H8 _ I8 q8) fun b s9 ⟨G9,H9,e9,I9,q9⟩=> ?_
   have back:∀ {Ga:Gp} {Ha:Hp} {sa:Shared} {acc':List T},Ext H7 Ha->Inv3 (jQ1 X scope cl s3.heap.objs.size fp s3 (upd H2 D (.lst []))) ([]++jQh fp s7.heap) τ8 Ga Ha sa->P (i+1) acc' Ga->
     ∃m,m<n/\∃i acc G' H',m=xs.length-i/\i<=xs.length/\Ext H2 H'/\Inv3 (jQ1 X scope cl s3.heap.objs.size fp s3 (upd H2 D (.lst []))) [] (msk mask τ) G' H' sa/\tn i sa.heap/\(∀b∈fp,H' b=none)/\P i acc G':=by
    rintro Ga Ha sa acc' ea ⟨σa,Ia,hsa,hga⟩ pa
    have e2a:Ext H5 Ha:=e7.trans ea
    have hla:mask.length=τ8.length:=by rw[ql8,jQ9 hl3];exact hl3
    have hsm:=kJg (mask:=mask) hsa hla
    rw[kUb hl3 ql8 qk8] at hsm
    refine⟨xs.length-(i+1),by omega,i+1,acc',Ga,Ha,rfl,hlt,e5.trans e2a,⟨msk mask σa,(Ia.weak (jQ9 (hla.trans hsa.1.symm)) fun j v hv=>(jYj hv).2).pins_of (fun p hp=>absurd hp (by simp)),hsm,hga⟩,?_,fun b hb=> ?_,pa⟩
    ·exact T0.keep _ _ _ st7 fun b hb o e=>(Ia.pin (b,o) (List.mem_append_right _ (List.mem_append_right _ (jQd hb e)))).1
    ·obtain⟨o,e,d⟩:=T0.obj _ _ st7 b hb
     exact (Ia.pin (b,o) (List.mem_append_right _ (List.mem_append_right _ (jQd hb e)))).2.1
   cases b with
   | false=>
    rw[if_neg Bool.false_ne_true] at q9 ⊢
    exact back (e8.trans e9) I9 q9
   | true=>
    rw[if_pos rfl] at q9 ⊢
    refine thn (he _ _ _ _ ([]++jQh fp s7.heap) s9 τ8 G9 H9 _ I9 q9) fun y s10 w_=>w_.el fun ty G10 H10 e10 I10 r10 ⟨hD10,hz10,q10⟩=> ?_
    obtain⟨vy,rvy,ruy⟩:=r10
    refine thn (jQa ([]++jQh fp s7.heap) s10 τ8 G10 H10 (.ref D) [ty] (.ref D) [y] (fun _ G'=>P (i+1) (acc++[ty]) G') I10 ⟨.ref D,rfl,rfl⟩ ⟨[vy],.one rvy,.cons ruy .nil⟩ ⟨D,acc,ty,rfl,rfl,hD10,hz10,q10⟩) fun _ s11 w_=>w_.el fun _ G11 H11 e11 I11 _ q11=> ?_
    exact back (((e8.trans e9).trans e10).trans e11) I11 q11
  ·have ei:i=xs.length:=by omega
   refine thn (T0.done (jQ1 X scope cl s3.heap.objs.size fp s3 (upd H2 D (.lst []))) rfl rfl rfl hc i [] s5 σ5 H5 (fun _ _=>False) I5 (fpc fr5 (by simp)) st5 (stop (by omega))) fun r s6 ⟨hr,I6⟩=> ?_
   subst hr;subst ei
   obtain⟨m,hn,_⟩:=I6.loc
   obtain⟨oC,es,ep,hoC,hdC,_⟩:=id hn
   refine hRR D s3.heap.objs.size s6 m hn ⟨G5,H5,eH.trans e5,I6.free,fin acc G5 p5,fun h' hb=>⟨σ,qUw I3 f3 (Nat.le_refl _) I6 hb,hs2.mono e5,hg5⟩⟩
    ⟨oC,hoC,Nat.ne_of_gt I3.lt,I3.nofs (Nat.le_refl _),fun v z=>by rw[hdC] at z;cases z⟩ (fun x d hd=> ?_) (fun p hp=> ?_) I3.sz
   ·obtain⟨v,q⟩:=I3.cell x d hd
    exact Nat.ne_of_lt q.lt
   ·exact Nat.ne_of_lt (Heap.lt_size (I3.pin p hp).1)
 exact codeAny_compStart_list (loop _ (by rw[<-hs3])) (T0.self _ 0 _ _ _ st4 (loop _ (by rw[<-hs3])))
theorem jQi (hc:X.calm=true) (ok:CmpOk X scope cl mask) (hi:PI3 X tg iter wi) (hgk:kKx mask g) (hg:∀C fp s H,PG3 (jQ1 X scope cl C fp s H) tg g) (hif:∀C fp s H,PIf3 (jQ1 X scope cl C fp s H) ifs tif) (he:∀C fp s H,PE3 (jQ1 X scope cl C fp s H) elt te)
  (hs:∀x,foldedSetIterable iter X.env x=pure x:=by intro _;rfl):PE3 X (.ListComp elt [⟨tg,iter,ifs,0⟩] scope pos) (jKm mask wi g tif te):=by
 intro pins s τ G H Q I h
 rw[eval_ListComp]
 refine wpAny_comprehension_free (use:=none) rfl hs (jXb ok.cl) ok.kind ok.nm (thn (hi pins s τ G H _ I h) fun xv s1 h1=>thn h1 fun itv s2 h2=> ?_)
 refine jZo (RR:=fun acc C=>compPost (model X.prog X.w) X.A X.xe none (EP3 X pins τ H Q) acc C) hc ok hgk hg hif he h2 ?_
 rintro D C s' m hn ⟨G1,H1,e1,_,q1,hI⟩ _ _ _ _
 exact⟨m,hn,fun h' hb=>⟨.ref D,G1,H1,e1,hI h' hb,⟨.ref D,rfl,rfl⟩,q1⟩⟩
theorem kXf {i:Nat} {y:Str} {py spos:Pos} (hc:X.calm=true) (hN:X.N.Nodup) (ok:CmpOk X scope cl mask) (hi:PI3 X tg iter wi) (hgk:kKx mask g) (hg:∀C fp s H,PG3 (jQ1 X scope cl C fp s H) tg g) (hif:∀C fp s H,PIf3 (jQ1 X scope cl C fp s H) ifs tif) (he:∀C fp s H,PE3 (jQ1 X scope cl C fp s H) elt te)
  (hy:X.N[i]? =some y:=by rfl) (hx:X.env.scope.names.lookup y=some .local:=by rfl)
  (hsw:swapsWith (.ListComp elt [⟨tg,iter,ifs,0⟩] scope pos) (some (.Name y py)) spos.line X.env=pure true:=by rfl)
  (hs:∀x,foldedSetIterable iter X.env x=pure x:=by intro _;rfl):PS3 X (.Assign [.Name y py] (.ListComp elt [⟨tg,iter,ifs,0⟩] scope pos) spos) (tAsg (jKm mask wi g tif te) (jJg i)):=by
 intro pins s τ G H D I h
 rw[exec_Assign_Name_used _ _ _ _ hsw];refine wpAny_bind (wpAny_standAt (wpAny_bind ?_))
 show wpAny _ X.A (do let _ <-comprehension (.ListComp elt [⟨tg,iter,ifs,0⟩] scope pos) scope X.env _ (newList []) false (eval iter X.env) (some (assign (.Name y py) X.env))) _ _ s
 refine wpAny_bind (wpAny_mono (wpAny_comprehension_free (use:=some (assign (.Name y py) X.env)) (Q:=fun _ s'=>SP3 X pins H D .next s') rfl hs (jXb ok.cl) ok.kind ok.nm
  (thn (hi pins s τ G H _ I h) fun xv s1 h1=>thn h1 fun itv s2 h2=> ?_)) (fun _ s' hq=>wpAny_pure (wpAny_pure hq)) fun _ _ e=>e)
 refine jZo (RR:=fun acc C=>compPost (model X.prog X.w) X.A X.xe (some (assign (.Name y py) X.env)) (fun _ s'=>SP3 X pins H D .next s') acc C) hc ok hgk hg hif he h2 ?_
 rintro Dd C s' m hn ⟨G1,H1,e1,hH1C,q1,hI⟩ ⟨oC,hoC,c1,c2,c3⟩ c4 c5 c6
 show wpAny _ X.A (assign (.Name y py) X.env (.ref Dd)) _ _ _
 obtain⟨σ1,I1,hs1,hg1⟩:=hI s'.heap (.refl ..)
 have I1':Inv X (pins++[(C,oC)]) σ1 H1 s':=I1.pins_of fun p hp=>(List.mem_append.mp hp).elim (fun z=>I1.pin p (List.mem_append_right _ z)) fun z=>by
  obtain rfl:p=(C,oC):=by simpa using z
  exact⟨hoC,hH1C,c1,c2,c3⟩
 refine wpAny_assign_Name (jZ0 I1' hN hy (.inl hx) (v:= .ref Dd) rfl (fun s2 I2=> ?_) (.inr hx))
 have hC2:s2.heap.get? C=some oC:=(I2.pin (C,oC) (List.mem_append_right _ (List.mem_append_right _ (by simp)))).1
 obtain⟨oC',es,ep,hoC',r⟩:=hn
 have eo:oC'=oC:=by rw[hoC] at hoC';exact (Option.some.inj hoC').symm
 subst eo
 refine⟨m,⟨oC',es,ep,hC2,r⟩,fun h' hb=>⟨_,G1,H1,e1,⟨_,?_,hs1.set i (show Rep X.K H1 (.ref Dd) (.ref Dd) from rfl),hg1⟩,q1⟩⟩
 exact I2.unpinned.turned (t':=s2.toks) (fun b o hb' e=>(hb.2 b hb').trans e) hH1C c1 (.inr c6) c4 c5
end
end L3
namespace HT
open PySem PyProof.Rows
def lexLe:(xs ys:List Int)->Bool
 | [],_=>true
 | _::_,[]=>false
 | x::xs,y::ys=>if x=y then lexLe xs ys else decide (x<=y)
theorem kVn (x y:Int) (xs ys:List Int):lexLe (x::xs) (y::ys)=if x=y then lexLe xs ys else decide (x<=y):=rfl
theorem kX8 (ys:List Int):lexLe [] ys=true:=by cases ys<;>rfl
theorem jZa (x:Int) (xs:List Int):lexLe (x::xs) []=false:=rfl
theorem kZ6 (A:Around) (s:Shared) (a:Int) (t:Tok) (c:Int) (u:Tok) (prog:Program) (w:World) (E:Value->Shared->Prop) (Q:Value->Shared->Prop) (h:Q (.bool (decide (a<=c))) s):
  wpAny (model prog w) A (richCompare .LtE (.int a t) (.int c u)) Q E s:=
 (PyProof.Rows.le_int h:wpAny (model prog w) A (compareOp .LtE (.int a t) (.int c u)) Q E s)
section
open PySem.SeqAt
open PySem.AutoSeq1 (wpAny_loadPart')
open PySem.MeetsSeq PySem.MeetsSeq2 PySem.MeetsSeq3
theorem jZw (l b:Addr) (items items2:Array Value) (n n2:Nat) (dd dd2:Option Addr) (sl sl2:Array (Option Value)) (ns ms:List Int) (hi:IntsAre items.toList ns) (hj:IntsAre items2.toList ms):
  Meets (Builtin.«tuple.__le__» ⟨[.ref l,.ref b],[]⟩)
   (fun _ R s=>s.heap.get? l=some {cls:= .type "tuple",dict:=dd,data:= .seq items n,slots:=sl}/\s.heap.get? b=some {cls:= .type "tuple",dict:=dd2,data:= .seq items2 n2,slots:=sl2}/\
    R (.ok (.ret (.bool (lexLe ns ms)))) s):=
 .of_wp fun prog w A R s h=>by
  obtain⟨hp,g,d,tk,os⟩:=s;obtain⟨hl,hb,h⟩:=h
  have f2:=AutoSeq1.sub_tuple_tuple
  have z1:items.size=ns.length:=by rw[<-hi.length];simp
  have z2:items2.size=ms.length:=by rw[<-hj.length];simp
  wp_walk using wpAny_loadPart' hl,wpAny_loadPart' hb,wpAny_forIn_list _ (fun rest b s'=>b.1=none/\s'=⟨hp,g,d,tk,os⟩/\∃(vs ws:List Value) (ns' ms':List Int),rest=vs.zip ws/\
   IntsAre vs ns'/\IntsAre ws ms'/\ns'.length+items2.size=ms'.length+items.size/\R (.ok (.ret (.bool (lexLe ns' ms')))) ⟨hp,g,d,tk,os⟩) _
  case turn=>
   rintro⟨y,x⟩ rest b s' ⟨hb',rfl,vs,ws,ns',ms',hz,hvi,hwi,hlen,hR⟩
   cases hvi with
   | nil=>rw[List.zip_nil_left] at hz;cases hz
   | cons a t hvi'=>
    cases hwi with
    | nil=>rw[List.zip_nil_right] at hz;cases hz
    | cons c u hwi'=>
     rw[List.zip_cons_cons] at hz
     injection hz with hyx hrest
     injection hyx with hy hx
     subst hy hx
     rw[kVn] at hR
     simp only[List.length_cons] at hlen
     obtain⟨e,he,hiff⟩:=qJ3 A.in1 ⟨hp,g,d,tk,os⟩ a t c u
     refine wpAny_bind (he prog w _ _ ?_)
     cases e with
     | true=>
      rw[if_pos (hiff.mp rfl)] at hR
      wp_walk
      exact⟨rfl,rfl,_,_,_,_,hrest,hvi',hwi',by omega,hR⟩
     | false=>
      rw[if_neg (fun q=>absurd (hiff.mpr q) Bool.false_ne_true)] at hR
      have hri:=kZ6 A.in1 ⟨hp,g,d,tk,os⟩ a t c u prog w
      wp_walk using hri
      exact⟨_,rfl,by simpa using hR⟩
  case fin=>
   rintro⟨b1,b2⟩ s' ⟨hb',rfl,vs,ws,ns',ms',hz,hvi,hwi,hlen,hR⟩
   simp only at hb'
   subst hb'
   have hv:lexLe ns' ms'=decide (items.size<=items2.size):=by
    cases hvi with
    | nil=>
     simp only[List.length_nil] at hlen
     rw[kX8]
     exact (decide_eq_true (by omega)).symm
    | cons a t hv=>
     cases hwi with
     | nil=>
      simp only[List.length_nil,List.length_cons] at hlen
      rw[jZa]
      exact (decide_eq_false (by omega)).symm
     | cons c u hw=>
      rw[List.zip_cons_cons] at hz
      cases hz
   rw[hv] at hR
   wp_walk
   exact⟨_,rfl,by simpa[Builtin.Tuple.tupleCompareSizes] using hR⟩
  case h=>
   exact⟨rfl,rfl,items.toList,items2.toList,ns,ms,rfl,hi,hj,by omega,h⟩
end
theorem le_tupInts {prog:Program} {w:World} {A:Around} {E:Value->Shared->Prop} {s:Shared} {l b:Addr} {items items2:Array Value} {ns ms:List Int} {Q:Value->Shared->Prop} (hl:IsTup s.heap l items) (hb:IsTup s.heap b items2) (hi:IntsAre items.toList ns) (hj:IntsAre items2.toList ms)
  (hu:A.units<cLine) (h:Q (.bool (lexLe ns ms)) s):wpAny (model prog w) A (compareOp .LtE (.ref l) (.ref b)) Q E s:=by
 obtain⟨⟨cls,dd,data,sl⟩,ho,hc,n,hd⟩:=id hl
 obtain⟨⟨cls2,dd2,data2,sl2⟩,ho2,hc2,n2,hd2⟩:=id hb
 simp only at hc hd hc2 hd2
 subst hc hd hc2 hd2
 exact richCompare_meets_room (op:= .LtE) ⟨_,ho,rfl⟩ ⟨_,ho2,rfl⟩ PySem.F.slot_tuple_le PySem.F.entry_tuple_le (PySem.F.args_tuple_le_2 _ _) (jZw l b items items2 n n2 dd dd2 sl sl2 ns ms hi hj)
  ⟨ho,ho2,show Value.bool (lexLe ns ms)≠Value.notImplemented/\Q (.bool (lexLe ns ms)) s from⟨(fun x=>nomatch x),h⟩⟩ hu
end HT
namespace L3
open PySem PySem.Spec PyProof.Rows L2
section
variable {X:Cx}
theorem jQe {K:PySem.W.Frag} {H:Hp}:∀ {ns:List Int} {vs:List V},Reps K H (ns.map T.int) vs->vs=ns.map V.int
 | [],_,h=>h
 | n::ns,_,⟨v,ws,e,r,rs⟩=>by
  subst e;cases (show v= .int n from r)
  rw[jQe rs];rfl
def rLeT:R3:=fun x y G Q=>∃ns ms,x= .tup (ns.map T.int)/\y= .tup (ms.map T.int)/\Q (.bl (HT.lexLe ns ms)) G
theorem o_leT (hu:X.A.units<cLine):Op3 X (compareOp .LtE) rLeT:=by
 rintro pins s τ G H x y v u Q ⟨σ,I,hs,hg⟩ ⟨a,ra,rv⟩ ⟨b,rb,ru⟩ ⟨ns,ms,ex,ey,q⟩
 subst ex;subst ey
 obtain⟨p,vs,e1,h1,h2⟩:=(show ∃p vs,a= .ref p/\H p=some (.tup vs)/\Reps X.K H (ns.map T.int) vs from ra)
 obtain⟨p',ws,e2,h3,h4⟩:=(show ∃p vs,b= .ref p/\H p=some (.tup vs)/\Reps X.K H (ms.map T.int) vs from rb)
 subst e1;subst e2
 cases rv;cases ru
 rw[jQe h2] at h1
 rw[jQe h4] at h3
 obtain⟨its,r1,p1,_⟩:=I.tuple (.of h1)
 obtain⟨its2,r2,p2,_⟩:=I.tuple (.of h3)
 exact HT.le_tupInts p1 p2 (show IntsAre its.toArray.toList ns from jZn r1) (show IntsAre its2.toArray.toList ms from jZn r2) hu ⟨.bl _,G,H,.refl H,⟨σ,I,hs,hg⟩,⟨.bl _,rfl,rfl⟩,q⟩
def rLeI:R3:=rI0 fun i j=> .bl (decide (i<=j))
def rLeA:R3:=fun x y G Q=>rLeI x y G Q\/rLeT x y G Q
theorem o_leA (hu:X.A.units+20<cLine):Op3 X (compareOp .LtE) rLeA:=o_le.or (o_leT (by omega))
theorem kYw {G:Gp} {x y:T} {b:Bool} (h:eqG G x y=some b):
  (∃p q xs ys,x= .ref p/\y= .ref q/\G p=some (.lst xs)/\G q=some (.lst ys)/\jYq xs=true/\jYq ys=true/\b=eqTs xs ys)\/(eqOk x=true/\eqOk y=true/\b=eqT x y):=by
 by_cases hr:∃p q,x= .ref p/\y= .ref q
 ·obtain⟨p,q,ex,ey⟩:=hr
  subst ex;subst ey
  refine .inl ?_
  simp only[eqG] at h
  split at h
  ·rename_i xs ys h1 h2
   split at h
   ·rename_i hc
    cases h
    exact⟨p,q,xs,ys,rfl,rfl,h1,h2,hc.1,hc.2,rfl⟩
   ·cases h
  ·cases h
 ·refine .inr ?_
  have e:eqG G x y=if eqOk x=true/\eqOk y=true then some (eqT x y) else none:=by
   cases x with
   | ref p=>cases y with
    | ref q=>exact absurd ⟨p,q,rfl,rfl⟩ hr
    | _=>rfl
   | _=>rfl
  rw[e] at h
  split at h
  ·rename_i hc
   cases h
   exact⟨hc.1,hc.2,rfl⟩
  ·cases h
mutual
theorem jZ5 {X:Cx} {pins:List (Addr×Obj)} {σ:L2.St} {H:Hp} {s:Shared} (I:Inv X pins σ H s):∀(x:T) {a:V} {u:Value},tree x=true->Rep X.K H x a->RelV a u->∃as,Reads s.heap u (td x) as
 | .non,a,u,_,r,q=>by cases (show a= .non from r);cases q;exact⟨_,.none⟩
 | .bl b,a,u,_,r,q=>by cases (show a= .bl b from r);cases q;exact⟨_,.bool b⟩
 | .int b,a,u,_,r,q=>by cases (show a= .int b from r);obtain⟨t,rfl⟩:=q;exact⟨_,.int b t⟩
 | .str b,a,u,_,r,q=>by cases (show a= .str b from r);obtain⟨t,rfl⟩:=q;exact⟨_,.str b t⟩
 | .tup xs,a,u,ht,r,q=>by
  obtain⟨p,vs,e1,h1,h2⟩:=(show ∃p vs,a= .ref p/\H p=some (.tup vs)/\Reps X.K H xs vs from r)
  subst e1;cases q
  obtain⟨its,rv,⟨o,ho,hc,n,hd⟩,_⟩:=I.tuple (.of h1)
  obtain⟨as,ra⟩:=jVk I xs (show jKz xs=true from ht) h2 rv
  exact⟨_,.tuple ho hc hd (by simpa using ra)⟩
 | .ref _,_,_,ht,_,_=>absurd (show false=true from ht) Bool.false_ne_true
 | .scr _,_,_,ht,_,_=>absurd (show false=true from ht) Bool.false_ne_true
 | .ty _,_,_,ht,_,_=>absurd (show false=true from ht) Bool.false_ne_true
theorem jVk {X:Cx} {pins:List (Addr×Obj)} {σ:L2.St} {H:Hp} {s:Shared} (I:Inv X pins σ H s):∀(xs:List T) {vs:List V} {us:List Value},jKz xs=true->Reps X.K H xs vs->Vals vs us->∃as,ReadsAll s.heap us (tds xs) as
 | [],_,_,_,r,q=>by cases r;cases q;exact⟨_,.nil⟩
 | x::xs,_,_,ht,⟨v,ws,e,r1,r2⟩,q=>by
  subst e
  cases q with
  | cons q1 q2=>
   have hx:tree x=true/\jKz xs=true:=by simpa[jKz] using ht
   obtain⟨as,ra⟩:=jZ5 I x hx.1 r1 q1
   obtain⟨bs,rb⟩:=jVk I xs hx.2 r2 q2
   exact⟨_,.cons ra rb⟩
end
mutual
theorem eqv_T:∀(x y:T),tree x=true->tree y=true->PyData.eqv (td x) (td y)=eqT x y
 | .non,y,_,hy=>by cases y<;>first | rfl | exact absurd (show false=true from hy) Bool.false_ne_true
 | .bl b,y,_,hy=>by cases y<;>first | rfl | exact absurd (show false=true from hy) Bool.false_ne_true
 | .int b,y,_,hy=>by cases y<;>first | rfl | exact absurd (show false=true from hy) Bool.false_ne_true
 | .str b,y,_,hy=>by cases y<;>first | rfl | exact absurd (show false=true from hy) Bool.false_ne_true
 | .tup xs,y,hx,hy=>by
  cases y with
  | tup ys=>exact kYt xs ys (show jKz xs=true from hx) (show jKz ys=true from hy)
  | _=>first | rfl | exact absurd (show false=true from hy) Bool.false_ne_true
 | .ref _,_,ht,_=>absurd (show false=true from ht) Bool.false_ne_true
 | .scr _,_,ht,_=>absurd (show false=true from ht) Bool.false_ne_true
 | .ty _,_,ht,_=>absurd (show false=true from ht) Bool.false_ne_true
theorem kYt:∀(xs ys:List T),jKz xs=true->jKz ys=true->PyData.eqvAll (tds xs) (tds ys)=eqTs xs ys
 | [],[],_,_=>rfl
 | [],_::_,_,_=>rfl
 | _::_,[],_,_=>rfl
 | x::xs,y::ys,hx,hy=>by
  have hx':tree x=true/\jKz xs=true:=by simpa[jKz] using hx
  have hy':tree y=true/\jKz ys=true:=by simpa[jKz] using hy
  show (PyData.eqv (td x) (td y)&&PyData.eqvAll (tds xs) (tds ys))=(eqT x y&&eqTs xs ys)
  rw[eqv_T x y hx'.1 hy'.1,kYt xs ys hx'.2 hy'.2]
end
theorem kUt {pins:List (Addr×Obj)} {σ:L2.St} {H:Hp} {s:Shared} {G:Gp} {x y:T} {a b:V} {u v:Value} {k:Bool} (I:Inv X pins σ H s) (hg:GRel X.K H G) (ra:Rep X.K H x a) (rb:Rep X.K H y b) (ru:RelV a u) (rv:RelV b v) (h:eqG G x y=some k):
  ∃da db as bs,Reads s.heap u da as/\Reads s.heap v db bs/\da.canLay0=true/\db.canLay0=true/\da.depth<=50/\PyData.eqv da db=k:=by
 rcases kYw h with ⟨p,q,xs,ys,ex,ey,hp,hq,ox,oy,e⟩ | ⟨ox,oy,e⟩
 ·subst ex;subst ey
  cases (show a= .ref p from ra);cases (show b= .ref q from rb)
  cases ru;cases rv
  obtain⟨vs,h1,h2⟩:=hg.lst hp
  obtain⟨ws,h3,h4⟩:=hg.lst hq
  obtain⟨its,r1,⟨o,n,ho,hc,_,hd⟩,_⟩:=I.list (.of h1)
  obtain⟨its',r2,⟨o',n',ho',hc',_,hd'⟩,_⟩:=I.list (.of h3)
  simp only[jYq,Bool.and_eq_true,decide_eq_true_eq] at ox oy
  obtain⟨as,r3⟩:=jVk I xs ox.1.1 h2 r1
  obtain⟨bs,r4⟩:=jVk I ys oy.1.1 h4 r2
  exact⟨.list (tds xs),.list (tds ys),_,_,.list ho hc hd (by simpa using r3),.list ho' hc' hd' (by simpa using r4),ox.1.2,oy.1.2,ox.2,by rw[e];exact kYt xs ys ox.1.1 oy.1.1⟩
 ·simp only[eqOk,Bool.and_eq_true,decide_eq_true_eq] at ox oy
  obtain⟨as,r3⟩:=jZ5 I x ox.1.1 ra ru
  obtain⟨bs,r4⟩:=jZ5 I y oy.1.1 rb rv
  exact⟨td x,td y,_,_,r3,r4,ox.1.2,oy.1.2,ox.2,by rw[e];exact eqv_T x y ox.1.1 oy.1.1⟩
theorem jYi (hu:X.A.units+64<cLine):Op3 X (compareOp .Eq) rEqA:=by
 rintro pins s τ G H x y v u Q ⟨σ,I,hs,hg⟩ ⟨a,ra,rv⟩ ⟨b,rb,ru⟩ ⟨k,hk,q⟩
 obtain⟨da,db,as,bs,r1,r2,c1,c2,d,e⟩:=kUt I hg ra rb rv ru hk
 exact SeqAt.compareEq_reads r1 r2 c1 c2 (by omega) ⟨.bl k,G,H,.refl H,⟨σ,I,hs,hg⟩,⟨.bl k,rfl,by rw[e];rfl⟩,q⟩
theorem o_neA (hu:X.A.units+64<cLine):Op3 X (compareOp .NotEq) rNeA:=by
 rintro pins s τ G H x y v u Q ⟨σ,I,hs,hg⟩ ⟨a,ra,rv⟩ ⟨b,rb,ru⟩ ⟨k,hk,q⟩
 obtain⟨da,db,as,bs,r1,r2,c1,c2,d,e⟩:=kUt I hg ra rb rv ru hk
 exact SeqAt.compareNe_reads r1 r2 c1 c2 (by omega) ⟨.bl (!k),G,H,.refl H,⟨σ,I,hs,hg⟩,⟨.bl (!k),rfl,by rw[e];rfl⟩,q⟩
end
section
variable {X:Cx}
def jZd:T->Bool
 | .non=>true
 | .bl _=>true
 | .int _=>true
 | .str _=>true
 | _=>false
theorem kUr {K:PySem.W.Frag} {H:Hp} {x:T} {a:V} (r:Rep K H x a) (f:jZd x=true):jZc a=true:=by
 cases x with
 | non=>cases (show a= .non from r);rfl
 | bl _=>cases (show a= .bl _ from r);rfl
 | int _=>cases (show a= .int _ from r);rfl
 | str _=>cases (show a= .str _ from r);rfl
 | _=>exact absurd (show false=true from f) Bool.false_ne_true
theorem qUh {K:PySem.W.Frag} {H:Hp} {x y:T} {a b:V} (r:Rep K H x a) (q:Rep K H y b) (f:jZd x=true) (g:jZd y=true):eqV a b=eqT x y:=by
 cases x with
 | non=>cases (show a= .non from r);cases y with
  | non=>cases (show b= .non from q);rfl
  | bl _=>cases (show b= .bl _ from q);rfl
  | int _=>cases (show b= .int _ from q);rfl
  | str _=>cases (show b= .str _ from q);rfl
  | _=>exact absurd (show false=true from g) Bool.false_ne_true
 | bl _=>cases (show a= .bl _ from r);cases y with
  | non=>cases (show b= .non from q);rfl
  | bl _=>cases (show b= .bl _ from q);rfl
  | int _=>cases (show b= .int _ from q);rfl
  | str _=>cases (show b= .str _ from q);rfl
  | _=>exact absurd (show false=true from g) Bool.false_ne_true
 | int _=>cases (show a= .int _ from r);cases y with
  | non=>cases (show b= .non from q);rfl
  | bl _=>cases (show b= .bl _ from q);rfl
  | int _=>cases (show b= .int _ from q);rfl
  | str _=>cases (show b= .str _ from q);rfl
  | _=>exact absurd (show false=true from g) Bool.false_ne_true
 | str _=>cases (show a= .str _ from r);cases y with
  | non=>cases (show b= .non from q);rfl
  | bl _=>cases (show b= .bl _ from q);rfl
  | int _=>cases (show b= .int _ from q);rfl
  | str _=>cases (show b= .str _ from q);rfl
  | _=>exact absurd (show false=true from g) Bool.false_ne_true
 | _=>exact absurd (show false=true from f) Bool.false_ne_true
def inT (x:T) (xs:List T):Bool:=xs.any fun y=>eqT y x
theorem kUq {K:PySem.W.Frag} {H:Hp} {x:T} {a:V} (r:Rep K H x a) (f:jZd x=true):∀ {xs:List T} {vs:List V},Reps K H xs vs->xs.all jZd=true->vs.all jZc=true/\inV a vs=inT x xs
 | [],_,h,_=>by cases h;exact⟨rfl,rfl⟩
 | y::ys,_,⟨v,ws,e,r1,r2⟩,g=>by
  subst e
  rw[List.all_cons,Bool.and_eq_true] at g
  obtain⟨h1,h2⟩:=kUq r f r2 g.2
  refine⟨by rw[List.all_cons,kUr r1 g.1,h1];rfl,?_⟩
  unfold inV inT at h2 ⊢
  rw[List.any_cons,List.any_cons,qUh r1 r g.1 f,h2]
def rInF (neg:Bool):R3:=fun x y G Q=>∃xs,seqT G y=some xs/\jZd x=true/\xs.all jZd=true/\Q (.bl (if neg then !inT x xs else inT x xs)) G
theorem kYk {neg:Bool} {op:CmpOp} (h:OpR X (compareOp op) (L2.rIn X.K neg)):Op3 X (compareOp op) (rInF neg):=
 Op3.of h fun H G x y a b Q hg ra rb ⟨xs,hx,fx,fs,q⟩=>by
  obtain⟨p,vs,e,hq,r⟩:=jQu hg rb hx
  obtain⟨h1,h2⟩:=kUq ra fx r fs
  exact⟨p,vs,e,hq,kUr ra fx,h1,.bl _,G,.refl H,hg,by rw[h2];rfl,q⟩
theorem o_inF:Op3 X (compareOp .In) (rInF false):=kYk kXu
theorem o_notInF:Op3 X (compareOp .NotIn) (rInF true):=kYk kJ2
def jVt:T->Option Key
 | .int i=>some (.inl i)
 | .str x=>some (.inr x)
 | _=>none
def allK {K:Type} (f:T->Option K):List T->Option (List K)
 | []=>some []
 | x::xs=>match f x,allK f xs with
  | some k,some ks=>some (k::ks)
  | _,_=>none
def key1:T->Option K1
 | .tup ts=>(allK jVt ts).map .inr
 | x=>(jVt x).map .inl
def key2:T->Option K2
 | .tup ts=>(allK key1 ts).map .inr
 | x=>(jVt x).map .inl
def jQp:List T->Option TKey:=allK key2
theorem jVs {K:PySem.W.Frag} {H:Hp} {x:T} {a:V} {k:Key} (h:jVt x=some k) (r:Rep K H x a):a=kV k:=by
 cases x with
 | int i=>cases h;exact r
 | str i=>cases h;exact r
 | non=>cases h
 | bl _=>cases h
 | tup _=>cases h
 | scr _=>cases h
 | ref _=>cases h
 | ty _=>cases h
theorem jXy {K:PySem.W.Frag} {H:Hp} {κ:Type} {f:T->Option κ} {R:κ->V->Prop} (hf:∀x k a,f x=some k->Rep K H x a->R k a):∀ {xs:List T} {vs:List V} {ks:List κ},allK f xs=some ks->Reps K H xs vs->Paired R ks vs
 | [],_,_,h,r=>by cases h;cases (show _=[] from r);exact .nil
 | x::xs,_,ks,h,⟨v,ws,e,r1,r2⟩=>by
  subst e
  unfold allK at h
  cases e1:f x with
  | none=>rw[e1] at h;cases h
  | some k=>
   cases e2:allK f xs with
   | none=>rw[e1,e2] at h;cases h
   | some ks'=>
    rw[e1,e2] at h;cases h
    exact .cons (hf _ _ _ e1 r1) (jXy hf e2 r2)
theorem qJu {K:PySem.W.Frag} {H:Hp} (x:T) (k:K1) (a:V) (h:key1 x=some k) (r:Rep K H x a):Rk1 H k a:=by
 cases x with
 | tup ts=>
  obtain⟨ks,h1,rfl⟩:=Option.map_eq_some_iff.mp (show (allK jVt ts).map Sum.inr=some k from h)
  obtain⟨p,vs,e,h3,h4⟩:=(show ∃p vs,a= .ref p/\H p=some (.tup vs)/\Reps K H ts vs from r)
  exact⟨p,vs,e,h3,jXy (fun x k a h r=>jVs h r) h1 h4⟩
 | int i=>cases h;exact r
 | str i=>cases h;exact r
 | non=>cases h
 | bl _=>cases h
 | scr _=>cases h
 | ref _=>cases h
 | ty _=>cases h
theorem qJt {K:PySem.W.Frag} {H:Hp} (x:T) (k:K2) (a:V) (h:key2 x=some k) (r:Rep K H x a):Rk2 H k a:=by
 cases x with
 | tup ts=>
  obtain⟨ks,h1,rfl⟩:=Option.map_eq_some_iff.mp (show (allK key1 ts).map Sum.inr=some k from h)
  obtain⟨p,vs,e,h3,h4⟩:=(show ∃p vs,a= .ref p/\H p=some (.tup vs)/\Reps K H ts vs from r)
  exact⟨p,vs,e,h3,jXy qJu h1 h4⟩
 | int i=>cases h;exact r
 | str i=>cases h;exact r
 | non=>cases h
 | bl _=>cases h
 | scr _=>cases h
 | ref _=>cases h
 | ty _=>cases h
theorem jQy {K:PySem.W.Frag} {H:Hp} {xs:List T} {vs:List V} {ks:TKey} {p:Addr} (h:jQp xs=some ks) (e:H p=some (.tup vs)) (r:Reps K H xs vs):TKeyAt H ks p:=⟨vs,e,jXy qJt h r⟩
def valT {κ:Type} [DecidableEq κ] (kvs:List (κ×T)) (k:κ):Option T:=(kvs.find? fun kv=>decide (kv.1=k)).map (·.2)
noncomputable def putT {κ:Type} [DecidableEq κ] (kvs:List (κ×T)) (k:κ) (v:T):List (κ×T):=
 if (kvs.any fun kv=>decide (kv.1=k))=true then kvs.map (fun kv=>if kv.1=k then (kv.1,v) else kv) else kvs++[(k,v)]
theorem PKV.val {κ:Type} [DecidableEq κ] {K:PySem.W.Frag} {H:Hp} {kvs:List (κ×T)} {ws:List (κ×V)} (r:PKV K H kvs ws) (k:κ):(∀t,valT kvs k=some t->∃v,valV ws k=some v/\Rep K H t v)/\(valT kvs k).isSome=(valV ws k).isSome:=by
 unfold PKV at r
 induction r with
 | nil=>exact⟨fun t h=>by simp[valT] at h,rfl⟩
 | @cons p q ps qs h t ih=>
  by_cases e:p.1=k
  ·have e':q.1=k:=h.1.symm.trans e
   have b:valT (p::ps) k=some p.2:=by simp[valT,List.find?_cons,e]
   rw[b,jXp e']
   exact⟨fun t ht=>by cases ht;exact⟨q.2,rfl,h.2⟩,rfl⟩
  ·have e':¬ q.1=k:=fun z=>e (h.1.trans z)
   have b:valT (p::ps) k=valT ps k:=by simp[valT,List.find?_cons,e]
   rw[b,jXq e']
   exact ih
theorem PKV.any {κ:Type} [DecidableEq κ] {K:PySem.W.Frag} {H:Hp} {kvs:List (κ×T)} {ws:List (κ×V)} (r:PKV K H kvs ws) (k:κ):(kvs.any fun kv=>decide (kv.1=k))=ws.any fun kv=>decide (kv.1=k):=by
 unfold PKV at r
 induction r with
 | nil=>rfl
 | cons h t ih=>rw[List.any_cons,List.any_cons,ih,h.1]
theorem PKV.put {κ:Type} [DecidableEq κ] {K:PySem.W.Frag} {H:Hp} {kvs:List (κ×T)} {ws:List (κ×V)} (r:PKV K H kvs ws) (k:κ) {t:T} {v:V} (rt:Rep K H t v):PKV K H (putT kvs k t) (putK ws k v):=by
 unfold putT putK
 rw[r.any k]
 by_cases e:(ws.any fun kv=>decide (kv.1=k))=true
 ·rw[if_pos e,if_pos e]
  unfold PKV at r ⊢
  clear e
  induction r with
  | nil=>exact .nil
  | @cons p q ps qs h t' ih=>
   rw[List.map_cons,List.map_cons]
   refine .cons ?_ ih
   obtain⟨h1,h2⟩:=h
   by_cases e:p.1=k
   ·rw[if_pos e,if_pos (h1.symm.trans e)];exact⟨h1,rt⟩
   ·rw[if_neg e,if_neg (fun z=>e (h1.trans z))];exact⟨h1,h2⟩
 ·rw[if_neg e,if_neg e];exact Paired.snoc r ⟨rfl,rt⟩
theorem PKV.length {κ:Type} {K:PySem.W.Frag} {H:Hp} {kvs:List (κ×T)} {ws:List (κ×V)} (r:PKV K H kvs ws):kvs.length=ws.length:=Paired.length r
noncomputable def dAt (G:Gp) (x y:T):Option (Option T):=match x with
 | .ref p=>match G p with
  | some (.dct kvs)=>match y with
   | .tup ys=>match jQp ys with
    | some ks=>some (valT kvs ks)
    | none=>none
   | _=>none
  | some (.dck kvs)=>match jVt y with
   | some k=>some (valT kvs k)
   | none=>none
  | some (.fdc kvs)=>match y with
   | .tup ys=>match jQp ys with
    | some ks=>some (valT kvs ks)
    | none=>none
   | _=>none
  | _=>none
 | _=>none
theorem kJo {K:PySem.W.Frag} {H:Hp} {G:Gp} {x y:T} {a b:V} {o:Option T} (hg:GRel K H G) (ra:Rep K H x a) (rb:Rep K H y b) (h:dAt G x y=some o):
  ∃p ov,a= .ref p/\DGet H p b ov/\o.isSome=ov.isSome/\∀t,o=some t->∃v,ov=some v/\Rep K H t v:=by
 unfold dAt at h
 split at h
 ·rename_i p
  cases (show a= .ref p from ra)
  split at h
  ·rename_i kvs hG
   split at h
   ·rename_i ys
    split at h
    ·rename_i ks hk
     cases h
     obtain⟨ws,h1,h2⟩:=hg p _ hG
     obtain⟨q,vs,e,h3,h4⟩:=(show ∃q vs,b= .ref q/\H q=some (.tup vs)/\Reps K H ys vs from rb)
     subst e
     exact⟨p,_,rfl,DGet.t h1 (jQy hk h3 h4),(h2.val ks).2,(h2.val ks).1⟩
    ·cases h
   ·cases h
  ·rename_i kvs hG
   split at h
   ·rename_i k hk
    cases h
    obtain⟨ws,h1,h2⟩:=hg p _ hG
    rw[jVs hk rb]
    exact⟨p,_,rfl,DGet.k h1,(h2.val k).2,(h2.val k).1⟩
   ·cases h
  ·rename_i kvs hG
   split at h
   ·rename_i ys
    split at h
    ·rename_i ks hk
     cases h
     obtain⟨ob,ws,h1,h2⟩:=(show ∃ob ws,H p=some (.frz ob (.dT ws))/\PKV K H kvs ws from hg p _ hG)
     obtain⟨q,vs,e,h3,h4⟩:=(show ∃q vs,b= .ref q/\H q=some (.tup vs)/\Reps K H ys vs from rb)
     subst e
     exact⟨p,_,rfl,.inr ⟨ws,ks,q,.inr ⟨ob,h1⟩,rfl,jQy hk h3 h4,rfl⟩,(h2.val ks).2,(h2.val ks).1⟩
    ·cases h
   ·cases h
  ·cases h
 ·cases h
def rDGet:R3:=fun x y G Q=>∃t,dAt G x y=some (some t)/\Q t G
theorem qQ6 (hu:X.A.units+20<cLine):Ix3 X rDGet:=by
 rintro value slice pins s τ G H x y v u Q ⟨σ,I,hs,hg⟩ ⟨a,ra,rv⟩ ⟨b,rb,ru⟩ ⟨t,hd,q⟩ hsl
 obtain⟨p,ov,e,g,_,hh⟩:=kJo hg ra rb hd
 obtain⟨w,ew,rw'⟩:=hh t rfl
 subst e;subst ew
 cases rv
 have hT:s.TypeIs (.ref p) "dict":=kQn I g
 unfold subscriptTail
 refine wpAny_bind ?_
 rw[getitemInPython_of_ne hT.not_modules]
 refine wpAny_bind (wpAny_specialOf hT PySem.F.slot_dict_getitem.lookup ?_)
 have fin:wpAny (model X.prog X.w) X.A (subscripted slice false (.ref p) u) (fun r s₃=>wpAny (model X.prog X.w) X.A (letTemporaryGo value (.ref p) r >>= fun _=>pure r) (EP3 X pins τ H Q) X.xe s₃) X.xe s:=by
  rw[hsl]
  exact wpAny_operating (kY8 hu I g ru fun w' s' I' r'=>wpAny_bind (wpAny_letTemporaryGo (wpAny_pure ⟨t,G,H,.refl H,⟨σ,I',hs,hg⟩,⟨w,rw',r'⟩,q⟩)))
 first
  | exact wpAny_pure (wpAny_bind fin)
  | exact wpAny_bind (wpAny_pure (wpAny_bind fin))
  | exact wpAny_bind fin
theorem Ix3.or {r r':R3} (h:Ix3 X r) (h':Ix3 X r'):Ix3 X (fun x y G Q=>r x y G Q\/r' x y G Q):=by
 intro value slice pins s τ G H x y v u Q I rx ry q hs
 rcases q with q | q
 ·exact h value slice pins s τ G H x y v u Q I rx ry q hs
 ·exact h' value slice pins s τ G H x y v u Q I rx ry q hs
def rIxA:R3:=fun x y G Q=>rIx x y G Q\/rDGet x y G Q
theorem qQ7 (hu:X.A.units+20<cLine):Ix3 X rIxA:=ix_any.or (qQ6 hu)
def rDIn:R3:=fun x y G Q=>∃o,dAt G y x=some o/\Q (.bl o.isSome) G
def kXq:R3:=fun x y G Q=>∃o,dAt G y x=some o/\Q (.bl (!o.isSome)) G
theorem o_dIn (hu:X.A.units+20<cLine):Op3 X (compareOp .In) rDIn:=by
 rintro pins s τ G H x y v u Q ⟨σ,I,hs,hg⟩ ⟨a,ra,rv⟩ ⟨b,rb,ru⟩ ⟨o,hd,q⟩
 obtain⟨p,ov,e,g,e2,_⟩:=kJo hg rb ra hd
 subst e;cases ru
 exact d_in hu I g rv fun s' I'=>⟨.bl _,G,H,.refl H,⟨σ,I',hs,hg⟩,⟨.bl _,rfl,by rw[<-e2];rfl⟩,q⟩
theorem qJh (hu:X.A.units+20<cLine):Op3 X (compareOp .NotIn) kXq:=by
 rintro pins s τ G H x y v u Q ⟨σ,I,hs,hg⟩ ⟨a,ra,rv⟩ ⟨b,rb,ru⟩ ⟨o,hd,q⟩
 obtain⟨p,ov,e,g,e2,_⟩:=kJo hg rb ra hd
 subst e;cases ru
 exact qUv hu I g rv fun s' I'=>⟨.bl _,G,H,.refl H,⟨σ,I',hs,hg⟩,⟨.bl _,rfl,by rw[<-e2];rfl⟩,q⟩
def rInL:R3:=fun x y G Q=>rInF false x y G Q\/rDIn x y G Q
def kXl:R3:=fun x y G Q=>rInF true x y G Q\/kXq x y G Q
theorem o_in (hu:X.A.units+20<cLine):Op3 X (compareOp .In) rInL:=o_inF.or (o_dIn hu)
theorem qQw (hu:X.A.units+20<cLine):Op3 X (compareOp .NotIn) kXl:=o_notInF.or (qJh hu)
def jZy:TE3:=fun _ G Q=>(∀p,G p=none->Q (.ref p) (gup G p (.dct [])))\/∀p,G p=none->Q (.ref p) (gup G p (.dck []))
theorem e_dct {pos:Pos}:PE3 X (.Dict [] [] pos) jZy:=by
 rintro pins s τ G H Q ⟨σ,I,hs,hg⟩ h
 rcases h with h | h
 ·exact thn (qJc pins s σ H (up X.K H Q) I fun p hp=>⟨.ref p,_,.upd (.none hp),hg.upd (.none hp) (go:= .dct []) ⟨[],jJ3,.nil⟩,rfl,h p (hg.fresh hp)⟩) fun u s' z=>jVo hs z
 ·exact thn (qJd pins s σ H (up X.K H Q) I fun p hp=>⟨.ref p,_,.upd (.none hp),hg.upd (.none hp) (go:= .dck []) ⟨[],jJ3,.nil⟩,rfl,h p (hg.fresh hp)⟩) fun u s' z=>jVo hs z
noncomputable def qKn:T->T->T->Gp->(Gp->Prop)->Prop:=fun o i v G Q=>∃p ys ks kvs,o= .ref p/\i= .tup ys/\jQp ys=some ks/\G p=some (.dct kvs)/\kvs.length<sizeLine/\Q (gup G p (.dct (putT kvs ks v)))
def qKo:T->T->T->Gp->(Gp->Prop)->Prop:=fun o i v G Q=>∃p k kvs,o= .ref p/\jVt i=some k/\G p=some (.dck kvs)/\kvs.length<sizeLine/\Q (gup G p (.dck (putT kvs k v)))
theorem qQf (hu:X.A.units+20<cLine):Set3 X qKn:=by
 rintro pins s τ G H o i v ov iv u Q ⟨σ,I,hs,hg⟩ ⟨a,ra,rv⟩ ⟨b,rb,ru⟩ ⟨c,rc,rw'⟩ ⟨p,ys,ks,kvs,eo,ei,hk,hG,hz,q⟩
 subst eo;subst ei
 cases (show a= .ref p from ra);cases rv
 obtain⟨ws,h1,h2⟩:=hg p _ hG
 obtain⟨b',vs,e,h3,h4⟩:=(show ∃q vs,b= .ref q/\H q=some (.tup vs)/\Reps X.K H ys vs from rb)
 subst e
 have h3:=jQy hk h3 h4
 have e:Ext H (upd H p (.dT (putK ws ks c))):= .upd (.dT h1)
 exact kKg hu I (DPut.t h1 h3 (by rw[<-h2.length];exact hz)) ru rw' fun s' I'=>⟨_,_,e,⟨σ,I',hs.mono e,hg.upd (.dT h1) (go:= .dct (putT kvs ks v)) ⟨_,jJ3,(h2.put ks rc).mono e⟩⟩,q⟩
theorem qQg (hu:X.A.units+20<cLine):Set3 X qKo:=by
 rintro pins s τ G H o i v ov iv u Q ⟨σ,I,hs,hg⟩ ⟨a,ra,rv⟩ ⟨b,rb,ru⟩ ⟨c,rc,rw'⟩ ⟨p,k,kvs,eo,hk,hG,hz,q⟩
 subst eo
 cases (show a= .ref p from ra);cases rv
 obtain⟨ws,h1,h2⟩:=hg p _ hG
 have eb:=jVs hk rb
 subst eb
 have e:Ext H (upd H p (.dK (putK ws k c))):= .upd (.dK h1)
 exact kKg hu I (DPut.k h1 (by rw[<-h2.length];exact hz)) ru rw' fun s' I'=>⟨_,_,e,⟨σ,I',hs.mono e,hg.upd (.dK h1) (go:= .dck (putT kvs k v)) ⟨_,jJ3,(h2.put k rc).mono e⟩⟩,q⟩
theorem Set3.or {r r':T->T->T->Gp->(Gp->Prop)->Prop} (h:Set3 X r) (h':Set3 X r'):Set3 X (fun o i v G Q=>r o i v G Q\/r' o i v G Q):=by
 intro pins s τ G H o i v ov iv u Q I ro ri rv q
 rcases q with q | q
 ·exact h pins s τ G H o i v ov iv u Q I ro ri rv q
 ·exact h' pins s τ G H o i v ov iv u Q I ro ri rv q
def rSetA:T->T->T->Gp->(Gp->Prop)->Prop:=fun o i v G Q=>kZ7 o i v G Q\/qKn o i v G Q\/qKo o i v G Q
theorem s_any (hu:X.A.units+20<cLine):Set3 X rSetA:=s_list.or ((qQf hu).or (qQg hu))
end
noncomputable def jZu (G:Gp):T->Option String
 | .non=>some "NoneType"
 | .bl _=>some "bool"
 | .int _=>some "int"
 | .str _=>some "str"
 | .tup _=>some "tuple"
 | .scr _=>some "list"
 | .ref p=>match G p with
  | some (.lst _)=>some "list"
  | some (.dct _)=>some "dict"
  | some (.dck _)=>some "dict"
  | some (.fdc _)=>none
  | some (.ins _ _)=>none
  | none=>none
 | .ty _=>none
def subT (t n:String):Option Bool:=
 if n="bool"\/n="int"\/n="str"\/n="list"\/n="tuple" then some (t == n||(t == "bool"&&n == "int")) else none
theorem qJs (K:PySem.W.Frag) {n:String} {b:Bool} (h:subT "bool" n=some b):PySem.W.kitOne K (.type "bool") (.type n)=some b:=by
 unfold subT at h
 split at h
 ·rename_i hn
  rcases hn with rfl | rfl | rfl | rfl | rfl<;>(cases h;kernel_rfl)
 ·cases h
theorem qJr (K:PySem.W.Frag) {n:String} {b:Bool} (h:subT "NoneType" n=some b):PySem.W.kitOne K (.type "NoneType") (.type n)=some b:=by
 unfold subT at h
 split at h
 ·rename_i hn
  rcases hn with rfl | rfl | rfl | rfl | rfl<;>(cases h;kernel_rfl)
 ·cases h
theorem qQ4 (K:PySem.W.Frag) {n:String} {b:Bool} (h:subT "int" n=some b):PySem.W.kitOne K (.type "int") (.type n)=some b:=by
 unfold subT at h
 split at h
 ·rename_i hn
  rcases hn with rfl | rfl | rfl | rfl | rfl<;>(cases h;kernel_rfl)
 ·cases h
theorem qQ3 (K:PySem.W.Frag) {n:String} {b:Bool} (h:subT "str" n=some b):PySem.W.kitOne K (.type "str") (.type n)=some b:=by
 unfold subT at h
 split at h
 ·rename_i hn
  rcases hn with rfl | rfl | rfl | rfl | rfl<;>(cases h;kernel_rfl)
 ·cases h
theorem kYa (K:PySem.W.Frag) {n:String} {b:Bool} (h:subT "tuple" n=some b):PySem.W.kitOne K (.type "tuple") (.type n)=some b:=by
 unfold subT at h
 split at h
 ·rename_i hn
  rcases hn with rfl | rfl | rfl | rfl | rfl<;>(cases h;kernel_rfl)
 ·cases h
theorem kUg (K:PySem.W.Frag) {n:String} {b:Bool} (h:subT "list" n=some b):PySem.W.kitOne K (.type "list") (.type n)=some b:=by
 unfold subT at h
 split at h
 ·rename_i hn
  rcases hn with rfl | rfl | rfl | rfl | rfl<;>(cases h;kernel_rfl)
 ·cases h
theorem kUh (K:PySem.W.Frag) {n:String} {b:Bool} (h:subT "dict" n=some b):PySem.W.kitOne K (.type "dict") (.type n)=some b:=by
 unfold subT at h
 split at h
 ·rename_i hn
  rcases hn with rfl | rfl | rfl | rfl | rfl<;>(cases h;kernel_rfl)
 ·cases h
section
variable {X:Cx}
theorem e_ty {x:Str} {n:String} {pos:Pos} (hg:Gl X x) (hm:X.mg x=none) (hv:bootBuiltins x=some (.type n)) (hn:x≠"__name__":=by decide) (hd:(x == ("__debug__":Str))=false:=by decide):PE3 X (.Name x pos) (tC (.ty n)):=
 fun pins s τ G H Q ⟨σ,I,hs,hg'⟩ q=>thn (qQp (v:= .ty n) hg hm hv rfl hn hd pins s σ H (up X.K H Q) I ⟨.ty n,G,.refl H,hg',rfl,q⟩) fun u s' h=>jVo hs h
def kitT (t:String):List T->Option Bool
 | []=>some false
 | .ty n::r=>match subT t n with
  | some true=>some true
  | some false=>kitT t r
  | none=>none
 | _::_=>none
def isiC:Option String->T->Option Bool
 | some t,.ty n=>subT t n
 | some t,.tup cs=>kitT t cs
 | _,_=>none
def isiT (G:Gp) (x c:T):Option Bool:=isiC (jZu G x) c
def rIsi:List T->Gp->VK3->Prop:=fun xs G Q=>∃x c b,xs=[x,c]/\isiT G x c=some b/\Q (.bl b) G
theorem kYb {K:PySem.W.Frag} {H:Hp} {t:String} (ok:∀n b,subT t n=some b->PySem.W.kitOne K (.type t) (.type n)=some b):∀ {cs:List T} {vs:List V} {us:List Value} {b:Bool},Reps K H cs vs->Vals vs us->kitT t cs=some b->PySem.W.kitAny K (.type t) us=some b
 | [],_,_,_,r,q,h=>by cases r;cases q;exact h
 | c::cs,_,_,b,⟨v,ws,e,r1,r2⟩,q,h=>by
  subst e
  cases q with
  | cons q1 q2=>
   cases c with
   | ty n=>
    cases (show v= .ty n from r1)
    cases q1
    unfold kitT at h
    unfold PySem.W.kitAny
    cases e:subT t n with
    | none=>rw[e] at h;cases h
    | some k=>
     rw[e] at h
     rw[ok n k e]
     cases k with
     | true=>exact h
     | false=>exact kYb ok r2 q2 h
   | _=>cases h
theorem jQb {pins:List (Addr×Obj)} {τ:St3} {G:Gp} {H:Hp} {s:Shared} {σ:L2.St} {c:T} {cv:V} {u cu:Value} {t:String} {b:Bool} {Q:VK3} {Hh:Heap->Prop} (I:Inv X pins σ H s) (hs:SRel X.K H σ τ) (hg:GRel X.K H G)
  (Z:PySem.W.KitX X.K u (.type t) Hh) (p:Hh s.heap) (hx:u≠ .builtin "__main__.__loader__#opaque") (ok:∀n b,subT t n=some b->PySem.W.kitOne X.K (.type t) (.type n)=some b)
  (rc:Rep X.K H c cv) (ru:RelV cv cu) (h:isiC (some t) c=some b) (q:Q (.bl b) G):
  wpAny (model X.prog X.w) X.A (call (.builtin "isinstance") [u,cu]) (EP3 X pins τ H Q) X.xe s:=by
 have fin:∀tk,EP3 X pins τ H Q (.bool b) {s with toks:=tk}:=fun tk=>⟨.bl b,G,H,.refl H,⟨σ,I.tok tk,hs,hg⟩,⟨.bl b,rfl,rfl⟩,q⟩
 cases c with
 | ty n=>
  cases (show cv= .ty n from rc);cases ru
  exact PySem.W.kia_one Z I.kIn p (ok n b h) hx fin
 | tup cs=>
  obtain⟨pp,vs,e,h1,h2⟩:=(show ∃p vs,cv= .ref p/\H p=some (.tup vs)/\Reps X.K H cs vs from rc)
  subst e;cases ru
  obtain⟨its,rv,⟨⟨cls,dd,data,sl⟩,ho,hc,n,hd⟩,_⟩:=I.tuple (.of h1)
  simp only at hc hd
  subst hc hd
  exact PySem.W.kia_tup Z I.kIn p ho (kYb ok h2 rv h) hx fin
 | _=>cases h
theorem jVd:Call3 X (.builtin "isinstance") rIsi:=by
 rintro pins s τ G H xs us Q ⟨σ,I,hs,hg⟩ ⟨as,ras,rvs⟩ ⟨x,c,b,e,h,q⟩
 subst e
 obtain⟨a,cv,rfl,ra,rc⟩:=kK4 ras
 obtain⟨u,cu,rfl,ru,rcu⟩:=rvs.two
 unfold isiT at h
 cases x with
 | non=>cases (show a= .non from ra);cases ru;exact jQb I hs hg PySem.W.kitx_none True.intro (fun z=>nomatch z) (fun n b=>qJr _) rc rcu h q
 | bl k=>cases (show a= .bl k from ra);cases ru;exact jQb I hs hg PySem.W.kitx_bool True.intro (fun z=>nomatch z) (fun n b=>qJs _) rc rcu h q
 | int k=>cases (show a= .int k from ra);obtain⟨t,rfl⟩:=ru;exact jQb I hs hg PySem.W.kitx_int True.intro (fun z=>nomatch z) (fun n b=>qQ4 _) rc rcu h q
 | str k=>cases (show a= .str k from ra);obtain⟨t,rfl⟩:=ru;exact jQb I hs hg PySem.W.kitx_str True.intro (fun z=>nomatch z) (fun n b=>qQ3 _) rc rcu h q
 | tup ys=>
  obtain⟨p,vs,e,h1,h2⟩:=(show ∃p vs,a= .ref p/\H p=some (.tup vs)/\Reps X.K H ys vs from ra)
  subst e;cases ru
  obtain⟨its,rv,⟨o,ho,hc,_⟩,_⟩:=I.tuple (.of h1)
  exact jQb I hs hg PySem.W.kitx_tuple ⟨o,ho,hc⟩ (fun z=>nomatch z) (fun n b=>kYa _) rc rcu h q
 | scr ys=>
  obtain⟨p,vs,e,h1,h2⟩:=(show ∃p vs,a= .ref p/\FrL X.K H p vs/\Reps X.K H ys vs from ra)
  subst e;cases ru
  obtain⟨its,rv,⟨o,n,ho,hc,_⟩,_⟩:=I.list h1.sq
  exact jQb I hs hg PySem.W.kitx_list ⟨o,ho,hc⟩ (fun z=>nomatch z) (fun n b=>kUg _) rc rcu h q
 | ref p=>
  cases (show a= .ref p from ra);cases ru
  cases hG:G p with
  | none=>simp only[jZu,hG] at h;cases h
  | some g=>
   cases g with
   | lst ys=>
    simp only[jZu,hG] at h
    obtain⟨vs,h1,h2⟩:=hg.lst hG
    obtain⟨its,rv,⟨o,n,ho,hc,_⟩,_⟩:=I.list (.of h1)
    exact jQb I hs hg PySem.W.kitx_list ⟨o,ho,hc⟩ (fun z=>nomatch z) (fun n b=>kUg _) rc rcu h q
   | fdc kvs=>simp only[jZu,hG] at h;cases h
   | ins _ _=>simp only[jZu,hG] at h;cases h
   | dct kvs=>
    simp only[jZu,hG] at h
    obtain⟨ws,h1,_⟩:=hg p _ hG
    obtain⟨_,_,xs,_,o,es,ep,h3,h4,_⟩:=(show ObjOk X.prog X.w H s.heap p (.dT ws) from I.hok p _ h1)
    exact jQb I hs hg PySem.W.kitx_dict ⟨o,h3,h4.1⟩ (fun z=>nomatch z) (fun n b=>kUh _) rc rcu h q
   | dck kvs=>
    simp only[jZu,hG] at h
    obtain⟨ws,h1,_⟩:=hg p _ hG
    obtain⟨_,_,vs,_,pp⟩:=(show ObjOk X.prog X.w H s.heap p (.dK ws) from I.hok p _ h1)
    obtain⟨o,es,ep,h3,h4,_⟩:=pp
    exact jQb I hs hg PySem.W.kitx_dict ⟨o,h3,h4.1⟩ (fun z=>nomatch z) (fun n b=>kUh _) rc rcu h q
 | ty _=>cases h
abbrev TO3:=St3->Gp->(Option Int->Gp->Prop)->Prop
noncomputable def PO3 (X:Cx) (e:Option Expr) (t:TO3):Prop:=
 ∀(pins:List (Addr×Obj)) (s:Shared) (τ:St3) (G:Gp) (H:Hp) (Q:Option Int->Gp->Prop),Inv3 X pins τ G H s->t τ G Q->
  wpAny (model X.prog X.w) X.A (evalPart e X.env) (fun u s'=>∃o G' H',Ext H H'/\Inv3 X pins τ G' H' s'/\IsPart u o/\Q o G') X.xe s
def jUk:TO3:=fun _ G Q=>Q none G
def jY6 (t:TE3):TO3:=fun τ G Q=>t τ G fun x G1=>∃i,x= .int i/\Q (some i) G1
theorem kQ7:PO3 X none jUk:=by
 intro pins s τ G H Q I h
 rw[evalPart_none]
 exact wpAny_pure ⟨none,G,H,.refl H,I,.none,h⟩
theorem jZk {e:Expr} {te:TE3} (h:PE3 X e te):PO3 X (some e) (jY6 te):=by
 intro pins s τ G H Q I hw
 rw[evalPart_some]
 refine thn (h pins s τ G H _ I hw) fun u s1 w_=>w_.el fun x G1 H1 e1 I1 r_ ⟨i,ex,q⟩=>r_.el fun v rv ru=> ?_
 subst ex
 cases (show v= .int i from rv)
 obtain⟨t,rfl⟩:=ru
 exact⟨some i,G1,H1,e1,I1,.int i t,q⟩
noncomputable def Sl3 (X:Cx) (r:T->Option Int->Option Int->Gp->VK3->Prop):Prop:=
 ∀(pins:List (Addr×Obj)) (s:Shared) (τ:St3) (G:Gp) (H:Hp) (x:T) (v vl vu:Value) (lo hi:Option Int) (sl:Addr) (Q:VK3),Inv3 X pins τ G H s->RU X.K H x v->s.heap.IsSliceOf sl vl vu .none->IsPart vl lo->IsPart vu hi->r x lo hi G Q->
  ∃T id,typeLookup (.type T) "__getitem__"=pure (some (.builtin id))/\s.TypeIs v T/\wpAny (model X.prog X.w) X.A (getItem v (.ref sl)) (EP3 X pins τ H Q) X.xe s
def tSl (r:T->Option Int->Option Int->Gp->VK3->Prop) (te:TE3) (tl th:TO3):TE3:=fun τ G Q=>te τ G fun x G1=>tl τ G1 fun l G2=>th τ G2 fun u G3=>r x l u G3 Q
theorem jYt {r:T->Option Int->Option Int->Gp->VK3->Prop} {e:Expr} {te:TE3} {lo hi:Option Expr} {tl th:TO3} {pos p2:Pos} (hr:Sl3 X r) (he:PE3 X e te) (hl:PO3 X lo tl) (hu:PO3 X hi th):PE3 X (.Subscript e (.Slice lo hi none p2) pos) (tSl r te tl th):=by
 intro pins s τ G H Q I h
 refine Subscript_ (thn (he pins s τ G H _ I h) fun v s1 w_=>w_.el fun x G1 H1 e1 I1 r1 q1=> ?_)
 refine wpAny_Slice (thn (hl pins s1 τ G1 H1 _ I1 q1) fun vl s2 ⟨l,G2,H2,e2,I2,pl,q2⟩=>thn (hu pins s2 τ G2 H2 _ I2 q2) fun vu s3 ⟨u,G3,H3,e3,⟨σ,I3,hs3,hg3⟩,pu,q3⟩=> ?_)
 rw[evalPart_none]
 refine wpAny_pure ?_
 have I4:Inv X pins σ H3 {s3 with heap:=s3.heap.push {cls:= .type "slice",data:= .fields #[vl,vu,.none]} }:=I3.kept (t':=s3.toks) fun b ob q=>Heap.get?_push_of_some _ q
 obtain⟨T0,id,hT,ht,hg⟩:=hr pins {s3 with heap:=s3.heap.push {cls:= .type "slice",data:= .fields #[vl,vu,.none]} } τ G3 H3 x v vl vu l u s3.heap.objs.size Q ⟨σ,I4,hs3,hg3⟩ ((r1.mono e2).mono e3) (Heap.IsSliceOf.new ..) pl pu q3
 show wpAny (model X.prog X.w) X.A (subscriptTail e (.Slice lo hi none p2) v (.ref s3.heap.objs.size)) (EP3 X pins τ H Q) X.xe {s3 with heap:=s3.heap.push {cls:= .type "slice",data:= .fields #[vl,vu,.none]} }
 exact thn (tail_any (ops:=[.ref s3.heap.objs.size,v]) ht hT hg (by with_unfolding_all rfl)) fun _ _ z=>z.ext ((e1.trans e2).trans e3)
def cutT (xs:List T) (lo hi:Option Int):List T:=(xs.drop (HT.sIx xs.length 0 lo)).take (HT.sIx xs.length xs.length hi-HT.sIx xs.length 0 lo)
noncomputable def rSlA:T->Option Int->Option Int->Gp->VK3->Prop:=fun x lo hi G Q=>
 (∃xs,jKw G x=some xs/\∀p,G p=none->Q (.ref p) (gup G p (.lst (cutT xs lo hi))))\/∃xs,x= .tup xs/\Q (.tup (cutT xs lo hi)) G
end
end L3
namespace HT
open PySem PyProof.Rows
theorem getItem_tuple_whole {prog:Program} {w:World} {A:Around} {E:Value->Shared->Prop} {s:Shared} {t sl:Addr} {items:Array Value} {vl vu:Value} {lo hi:Option Int} {Q:Value->Shared->Prop} (ht:IsTup s.heap t items) (hs:s.heap.IsSliceOf sl vl vu .none) (pl:IsPart vl lo) (pu:IsPart vu hi)
  (hw:sIx items.size 0 lo=0/\sIx items.size items.size hi=items.size) (h:Q (.ref t) s):wpAny (model prog w) A (getItem (.ref t) (.ref sl)) Q E s:=by
 obtain⟨os,hos,hcs,hds⟩:=id hs
 have hTs:s.TypeIs (.ref sl) "slice":=⟨os,hos,hcs⟩
 unfold getItem
 try with_reducible refine wpAny_holding ?_
 first | refine wpAny_bind (wpAny_pure ?_) | skip
 refine wpAny_bind (wpAny_sequenceKey ht.typeIs (by decide) ?_)
 refine wpAny_bind (wpAny_callSpecial?_slot (name:=Str.ofString "__getitem__") ht.typeIs PyProof.Rows.slot_tuple_getitem
  (wpAny_call_entry PyProof.Rows.slot_tuple_getitem ht.typeIs entry_tuple_getitem ?_ (args_tuple_getitem _ _)))
 show wpAny _ _ (Builtin.Tuple.tupleItemsOf (.ref t) >>= _) _ _ s
 refine wpAny_bind (tupleItemsOf_ ht ?_)
 refine wpAny_bind (wpAny_typeOf hTs ?_)
 rw[if_pos (by decide)]
 refine wpAny_bind (jUc hs pl pu ?_)
 have hyes:(((sIx items.size 0 lo:Nat):Int) == 0&&(1:Int) == 1&&(sIx items.size items.size hi-sIx items.size 0 lo) == items.size)=true:=by
  rw[hw.1,hw.2];simp
 show wpAny _ _ (if (((sIx items.size 0 lo:Nat):Int) == 0&&(1:Int) == 1&&(sIx items.size items.size hi-sIx items.size 0 lo) == items.size)=true then _ else _) _ _ s
 rw[if_pos hyes]
 refine wpAny_bind ?_
 unfold Builtin.Tuple.tupleIsExact
 refine wpAny_bind (wpAny_typeOf ht.typeIs (wpAny_pure ?_))
 rw[if_pos (by decide)]
 exact wpAny_bind (wpAny_rule (wpAny_pure ⟨_,rfl,wpAny_pure h⟩))
end HT
namespace L3
open PySem PySem.Spec PyProof.Rows L2
section
variable {X:Cx}
theorem Reps.cut {K:PySem.W.Frag} {H:Hp} {xs:List T} {vs:List V} (r:Reps K H xs vs) (lo hi:Option Int):Reps K H (cutT xs lo hi) (cutV vs lo hi):=by
 unfold cutT cutV
 rw[<-r.length]
 exact (r.drop _).take _
theorem kVt {xs:List T} {lo hi:Option Int} (h:HT.sIx xs.length 0 lo=0/\HT.sIx xs.length xs.length hi=xs.length):cutT xs lo hi=xs:=by
 unfold cutT
 rw[h.1,h.2]
 simp
theorem sl_any:Sl3 X rSlA:=by
 rintro pins s τ G H x v vl vu lo hi sl Q ⟨σ,I,hs,hg⟩ ⟨a,ra,rv⟩ hsl pl pu h
 rcases h with ⟨xs,hx,q⟩ | ⟨xs,ex,q⟩
 ·obtain⟨p,vs,e,hq,r⟩:=jQo hg ra hx
  subst e
  obtain⟨T0,id,h1,h2,h3⟩:=qQe pins s σ H (.ref p) v vl vu lo hi sl (up X.K H Q) I rv hsl pl pu ⟨p,vs,rfl,hq,fun l hl=>⟨.ref l,_,.upd (.none hl),hg.lstNew (r.cut lo hi) (.none hl),rfl,q l (hg.fresh hl)⟩⟩
  exact⟨T0,id,h1,h2,thn h3 fun _ _ z=>jVo hs z⟩
 ·subst ex
  obtain⟨p,vs,e,h1,h2⟩:=(show ∃p vs,a= .ref p/\H p=some (.tup vs)/\Reps X.K H xs vs from ra)
  subst e
  by_cases hw:HT.sIx xs.length 0 lo=0/\HT.sIx xs.length xs.length hi=xs.length
  ·cases rv
   obtain⟨its,rv',ht,hz⟩:=I.tuple (.of h1)
   have hlen:its.toArray.size=xs.length:=by rw[List.size_toArray,<-rv'.length,h2.length]
   refine⟨"tuple",_,PyProof.Rows.slot_tuple_getitem.lookup,ht.typeIs,HT.getItem_tuple_whole ht hsl pl pu (by rw[hlen];exact hw) ?_⟩
   rw[kVt hw] at q
   exact⟨.tup xs,G,H,.refl H,⟨σ,I,hs,hg⟩,⟨.ref p,ra,rfl⟩,q⟩
  ·obtain⟨T0,id,h3,h4,h5⟩:=sl_tup pins s σ H (.ref p) v vl vu lo hi sl (up X.K H Q) I rv hsl pl pu ⟨p,vs,rfl,.of h1,by rw[<-h2.length];exact hw,fun l hl=>⟨.tup (cutT xs lo hi),G,.upd (.none hl),hg.tupNew hl,Rep.tupNew (h2.cut lo hi) hl,q⟩⟩
   exact⟨T0,id,h3,h4,thn h5 fun _ _ z=>jVo hs z⟩
end
section
variable {X:Cx}
def insT (xs:List T) (k:Nat) (y:T):List T:=xs.take k++y::xs.drop k
noncomputable def qQk:T->List T->Gp->VK3->Prop:=fun x as G Q=>∃p xs k y,x= .ref p/\as=[.int k,y]/\G p=some (.lst xs)/\0<=k/\k<=xs.length/\xs.length<sizeLine/\Q .non (gup G p (.lst (insT xs k.toNat y)))
def kQq:List T->Option Bool
 | []=>some true
 | .bl b::r=>match kQq r with
  | some c=>some (b&&c)
  | none=>none
 | _::_=>none
def rAll:List T->Gp->VK3->Prop:=fun as G Q=>∃p xs b,as=[.ref p]/\G p=some (.lst xs)/\kQq xs=some b/\Q (.bl b) G
theorem kKt:∀ {xs:List T} {b:Bool},kQq xs=some b->∃bs:List Bool,xs=bs.map T.bl/\b=bs.all (fun x=>x)
 | [],b,h=>by cases h;exact⟨[],rfl,rfl⟩
 | .bl c::r,b,h=>by
  unfold kQq at h
  cases e:kQq r with
  | none=>rw[e] at h;cases h
  | some d=>
   rw[e] at h;cases h
   obtain⟨bs,h1,h2⟩:=kKt e
   exact⟨c::bs,by rw[h1];rfl,by rw[h2];rfl⟩
 | .non::_,_,h=>by cases h
 | .int _::_,_,h=>by cases h
 | .str _::_,_,h=>by cases h
 | .tup _::_,_,h=>by cases h
 | .scr _::_,_,h=>by cases h
 | .ref _::_,_,h=>by cases h
 | .ty _::_,_,h=>by cases h
theorem kQ1 {K:PySem.W.Frag} {H:Hp}:∀ {bs:List Bool} {vs:List V} {us:List Value},Reps K H (bs.map T.bl) vs->Vals vs us->us=bs.map Value.bool
 | [],_,_,h,q=>by cases h;cases q;rfl
 | n::ns,_,_,⟨v,ws,e,r,rs⟩,q=>by
  subst e;cases (show v= .bl n from r)
  cases q with
  | cons q1 q2=>cases q1;rw[kQ1 rs q2];rfl
theorem kKr:∀(bs:List Bool),bs.all (fun x=>x)=(List.range bs.length).all fun i=>bs.getD i true
 | []=>rfl
 | b::bs=>by
  rw[List.all_cons,kKr bs,List.length_cons,List.range_succ_eq_map,List.all_cons,List.all_map]
  simp[Function.comp_def,List.getD]
theorem qU2 (hc:X.calm=true):Call3 X (.builtin "all") rAll:=by
 rintro pins s τ G H as us Q ⟨σ,I,hs,hg⟩ ⟨bs',rbs,rus⟩ ⟨p,xs,b,e,hp,hb,q⟩
 subst e
 obtain⟨a,rfl,ra⟩:=jUm rbs
 cases (show a= .ref p from ra)
 obtain⟨u,rfl,ru⟩:=rus.one
 cases ru
 obtain⟨vs,h1,h2⟩:=hg.lst hp
 obtain⟨bs,ex,eb⟩:=kKt hb
 subst ex
 obtain⟨its,rv,pl,hz⟩:=I.list (.of h1)
 have eit:=kQ1 h2 rv
 subst eit
 refine call_all_walk (wpAny_pyIter_list pl.isList ?_)
 have hne:p≠s.heap.objs.size:=by obtain⟨o,n,ho,_⟩:=pl;exact Nat.ne_of_lt (Heap.lt_size ho)
 refine⟨s.heap.objs.size,[s.heap.objs.size,p],[s.heap.objs.size],(bs.map Value.bool).toArray.size,_,_,fun i=>bs.getD i true,rfl,Walks.list (A:=X.A.in1) (show X.A.in1.handled=none from I.ok.hd hc) s.heap.objs.size p hne (bs.map Value.bool).toArray,⟨⟨_,Heap.get?_push_size _ rfl,rfl,rfl⟩,pl.isList.push _⟩,?_,?_⟩
 ·intro i v s' Q' E' hP hQ
  have hP':(bs.map Value.bool)[i]? =some v:=by simpa using hP
  rw[List.getElem?_map] at hP'
  cases e:bs[i]? with
  | none=>rw[e] at hP';cases hP'
  | some c=>
   rw[e] at hP';cases hP'
   have:bs.getD i true=c:=by simp[List.getD,e]
   have hQ':Q' (bs.getD i true) s':=hQ
   rw[this] at hQ'
   exact wpAny_truthy_bool hQ'
 ·intro h' tk hk
  have hk2:∀b o,s.heap.get? b=some o->h'.get? b=some o:=fun b o e=>hk b o (by simpa using Nat.ne_of_lt (Heap.lt_size e)) (Heap.get?_push_of_some _ e)
  refine⟨.bl b,G,H,.refl H,⟨σ,I.kept hk2,hs,hg⟩,⟨.bl b,rfl,?_⟩,q⟩
  rw[eb,kKr]
  simp
  rfl
end
structure Cal (P:Program) (w:World) (K:PySem.W.Frag) (mg:Str->Option Value) (base:Heap) (k:Nat) (x:Str) (ps:List Str) (sp:Sp3):Prop where
 ex:∃f fd,Fn3 P w K mg base k f fd ps sp/\mg x=some (.ref f)/\PySem.W.keepIn K (.ref f)=true/\Binds K fd ps []
 mono:Mono sp
 len:∀xs G Q,sp xs G Q->xs.length=ps.length
theorem jKn {X:Cx} {k:Nat} {ps:List Str} {sp:Sp3} {x:Str} {p pos:Pos} {e:Expr} {es:List Expr} {t:TA3} (C:Cal X.prog X.w X.K X.mg X.base k x ps sp) (hr:Room k X.A) (ha:PA3 X (e::es) t) (hg:Gl X x:=by rfl)
  (hdb:(x == ("__debug__":Str))=false:=by decide) (he:starEach (e::es) X.env=(false,eval e X.env)::starEach es X.env:=by rfl) (hpl:(backTo pos (starEach es X.env)).any (·.1)=false:=by rfl):
  PE3 X (.Call (.Name x p) (e::es) [] pos) (jKd sp t):=by
 intro pins s τ G H Q I h
 obtain⟨f,fd,F,hm,hk,hb⟩:=C.ex
 obtain⟨σ0,I0,hs0,hg0⟩:=id I
 refine wpAny_Call_Name_kw (qQ1 I0 hg hm ?_ hdb)
 refine PySem.W.callWith_K (h₀:=X.base) I0.ok.mod.kin hk (thn (ha pos pins s τ G H _ I h) fun us s1 w_=>w_.el fun xs G1 H1 e1 i_ r_ q=>i_.el fun σ I1 hs1 hg1=>r_.el fun as ras rvs=>⟨I1.kIn,?_⟩) he hpl
 refine thn (run_fn (dvs:=[]) (ds:=[]) (E:=E0) (Q:=up X.K H1 Q) F hr hb .nil pass0 I1 rvs ?_) fun u s' z=>(jVo hs1 z).ext e1
 rw[List.append_nil]
 exact⟨by rw[<-ras.length];exact C.len _ _ _ q,xs,G1,ras,hg1,C.mono _ _ _ _ (fun t G' hq v H' e g r=>⟨t,G',e,g,r,hq⟩) q⟩
def kXm:=kQc
theorem qUy {X:Cx}:Call3 X (.type "list") kXm:=c_list
end L3
namespace L3
open PySem PySem.Spec PyProof.Rows
inductive Res where
 | val (t:T) | newL (xs:List T)
def fin3:Res->Gp->VK3->Prop
 | .val t,G,Q=>Q t G
 | .newL xs,G,Q=>∀p,G p=none->Q (.ref p) (gup G p (.lst xs))
theorem Op3.imp {X:L2.Cx} {f:Value->Value->Sem Value} {r r':R3} (h:Op3 X f r) (i:∀x y G Q,r' x y G Q->r x y G Q):Op3 X f r':=fun pins s τ G H x y v u Q I rx ry q=>h pins s τ G H x y v u Q I rx ry (i x y G Q q)
theorem Ix3.imp {X:L2.Cx} {r r':R3} (h:Ix3 X r) (i:∀x y G Q,r' x y G Q->r x y G Q):Ix3 X r':=fun a b pins s τ G H x y v u Q I rx ry q hs=>h a b pins s τ G H x y v u Q I rx ry (i x y G Q q) hs
theorem Set3.imp {X:L2.Cx} {r r':T->T->T->Gp->(Gp->Prop)->Prop} (h:Set3 X r) (i:∀o j v G Q,r' o j v G Q->r o j v G Q):Set3 X r':=fun pins s τ G H o j v a b c Q I ro rj rv q=>h pins s τ G H o j v a b c Q I ro rj rv (i o j v G Q q)
theorem Sl3.imp {X:L2.Cx} {r r':T->Option Int->Option Int->Gp->VK3->Prop} (h:Sl3 X r) (i:∀x l u G Q,r' x l u G Q->r x l u G Q):Sl3 X r':=fun pins s τ G H x v vl vu lo hi sl Q I rx hs pl pu q=>h pins s τ G H x v vl vu lo hi sl Q I rx hs pl pu (i x lo hi G Q q)
noncomputable def addR (G:Gp):T->T->Option Res
 | .int i,.int j=>some (.val (.int (i+j)))
 | .ref p,.ref q=>match G p,G q with
  | some (.lst xs),some (.lst ys)=>if xs.length+ys.length<=sizeLine then some (.newL (xs++ys)) else none
  | _,_=>none
 | .tup xs,.tup ys=>if xs.length≠0/\xs.length+ys.length<=sizeLine then some (.val (.tup (xs++ys))) else none
 | _,_=>none
def jQg:R3:=fun x y G Q=>∃r,addR G x y=some r/\fin3 r G Q
theorem add_F {x y:T} {G:Gp} {Q:VK3} (h:jQg x y G Q):rAddA x y G Q:=by
 obtain⟨r,hr,q⟩:=h
 unfold addR at hr
 split at hr
 ·cases hr;exact .inl ⟨_,_,rfl,rfl,q⟩
 ·rename_i p q'
  split at hr
  ·rename_i xs ys h1 h2
   split at hr
   ·rename_i hz;cases hr;exact .inr (.inl ⟨p,q',xs,ys,rfl,rfl,h1,h2,hz,q⟩)
   ·cases hr
  ·cases hr
 ·rename_i xs ys
  split at hr
  ·rename_i hz;cases hr;exact .inr (.inr ⟨xs,ys,rfl,rfl,fun z=>hz.1 (by rw[z];rfl),hz.2,q⟩)
  ·cases hr
 ·cases hr
theorem jKj {X:L2.Cx}:Op3 X (binaryOp .Add) jQg:=o_addA.imp fun _ _ _ _=>add_F
noncomputable def mulR (G:Gp):T->T->Option Res
 | .int i,.int j=>some (.val (.int (i*j)))
 | .ref p,.int n=>match G p with
  | some (.lst xs)=>if n.toNat * xs.length<=sizeLine/\n<2^62/\ -(2^62)<n then some (.newL (List.replicate n.toNat xs).flatten) else none
  | _=>none
 | _,_=>none
def mulC:T->T->Prop
 | .int i,.int j=>L2.CMul i j
 | _,_=>True
def jV5:R3:=fun x y G Q=>∃r,mulR G x y=some r/\mulC x y/\fin3 r G Q
theorem mul_F {x y:T} {G:Gp} {Q:VK3} (h:jV5 x y G Q):rMulA x y G Q:=by
 obtain⟨r,hr,c,q⟩:=h
 unfold mulR at hr
 split at hr
 ·cases hr;exact .inl ⟨_,_,rfl,rfl,c,q⟩
 ·rename_i p n
  split at hr
  ·rename_i xs h1
   split at hr
   ·rename_i hz;cases hr;exact .inr ⟨p,xs,n,rfl,rfl,h1,hz.1,hz.2.1,hz.2.2,q⟩
   ·cases hr
  ·cases hr
 ·cases hr
theorem jVp {X:L2.Cx}:Op3 X (binaryOp .Mult) jV5:=o_mulA.imp fun _ _ _ _=>mul_F
def ixR (G:Gp) (x y:T):Option T:=match seqT G x with
 | some xs=>match y with
  | .int i=>L2.atI xs i
  | _=>none
 | none=>match dAt G x y with
  | some o=>o
  | none=>none
def rIxF:R3:=fun x y G Q=>∃t,ixR G x y=some t/\Q t G
theorem ix_F' {x y:T} {G:Gp} {Q:VK3} (h:rIxF x y G Q):rIxA x y G Q:=by
 obtain⟨t,ht,q⟩:=h
 unfold ixR at ht
 split at ht
 ·rename_i xs hx
  split at ht
  ·rename_i i;exact .inl ⟨xs,i,t,hx,rfl,ht,q⟩
  ·cases ht
 ·split at ht
  ·rename_i o ho;subst ht;exact .inr ⟨t,ho,q⟩
  ·cases ht
theorem ix_F {X:L2.Cx} (hu:X.A.units+20<cLine):Ix3 X rIxF:=(qQ7 hu).imp fun _ _ _ _=>ix_F'
noncomputable def setR (G:Gp) (o i v:T):Option Gp:=match o with
 | .ref p=>match G p with
  | some (.lst xs)=>match i with
   | .int k=>match L2.ixN xs.length k with
    | some j=>some (gup G p (.lst (xs.set j v)))
    | none=>none
   | _=>none
  | some (.dct kvs)=>match i with
   | .tup ys=>match jQp ys with
    | some ks=>if kvs.length<sizeLine then some (gup G p (.dct (putT kvs ks v))) else none
    | none=>none
   | _=>none
  | some (.dck kvs)=>match jVt i with
   | some k=>if kvs.length<sizeLine then some (gup G p (.dck (putT kvs k v))) else none
   | none=>none
  | some (.fdc _)=>none
  | some (.ins _ _)=>none
  | none=>none
 | _=>none
def jY9:T->T->T->Gp->(Gp->Prop)->Prop:=fun o i v G Q=>∃G',setR G o i v=some G'/\Q G'
theorem set_F' {o i v:T} {G:Gp} {Q:Gp->Prop} (h:jY9 o i v G Q):rSetA o i v G Q:=by
 obtain⟨G',hr,q⟩:=h
 unfold setR at hr
 split at hr
 ·rename_i p
  split at hr
  ·rename_i xs h1
   split at hr
   ·rename_i k
    split at hr
    ·rename_i j hj;cases hr;exact .inl ⟨p,xs,k,j,rfl,rfl,h1,hj,q⟩
    ·cases hr
   ·cases hr
  ·rename_i kvs h1
   split at hr
   ·rename_i ys
    split at hr
    ·rename_i ks hk
     split at hr
     ·rename_i hz;cases hr;exact .inr (.inl ⟨p,ys,ks,kvs,rfl,rfl,hk,h1,hz,q⟩)
     ·cases hr
    ·cases hr
   ·cases hr
  ·rename_i kvs h1
   split at hr
   ·rename_i k hk
    split at hr
    ·rename_i hz;cases hr;exact .inr (.inr ⟨p,k,kvs,rfl,hk,h1,hz,q⟩)
    ·cases hr
   ·cases hr
  ·cases hr
  ·cases hr
  ·cases hr
 ·cases hr
theorem s_F {X:L2.Cx} (hu:X.A.units+20<cLine):Set3 X jY9:=(s_any hu).imp fun _ _ _ _ _=>set_F'
noncomputable def rLeF:R3:=fun x y G Q=>∃b,(match x,y with
 | .int i,.int j=>some (decide (i<=j))
 | .tup [.int a,.int b],.tup [.int c,.int d]=>some (HT.lexLe [a,b] [c,d])
 | _,_=>none)=some b/\Q (.bl b) G
theorem le_F' {x y:T} {G:Gp} {Q:VK3} (h:rLeF x y G Q):rLeA x y G Q:=by
 obtain⟨b,hb,q⟩:=h
 split at hb
 ·cases hb;exact .inl ⟨_,_,rfl,rfl,q⟩
 ·cases hb;exact .inr ⟨_,_,rfl,rfl,q⟩
 ·cases hb
theorem qQx {X:L2.Cx} (hu:X.A.units+20<cLine):Op3 X (compareOp .LtE) rLeF:=(o_leA hu).imp fun _ _ _ _=>le_F'
noncomputable def inR (G:Gp) (x y:T):Option Bool:=match seqT G y with
 | some xs=>if jZd x=true/\xs.all jZd=true then some (inT x xs) else none
 | none=>match dAt G y x with
  | some o=>some o.isSome
  | none=>none
def qQl:R3:=fun x y G Q=>∃b,inR G x y=some b/\Q (.bl b) G
def jK9:R3:=fun x y G Q=>∃b,inR G x y=some b/\Q (.bl (!b)) G
theorem in_F' {x y:T} {G:Gp} {Q:VK3} (h:qQl x y G Q):rInL x y G Q:=by
 obtain⟨b,hb,q⟩:=h
 unfold inR at hb
 split at hb
 ·rename_i xs hx
  split at hb
  ·rename_i hc;cases hb;exact .inl ⟨xs,hx,hc.1,hc.2,q⟩
  ·cases hb
 ·split at hb
  ·rename_i o ho;cases hb;exact .inr ⟨o,ho,q⟩
  ·cases hb
theorem qJk {x y:T} {G:Gp} {Q:VK3} (h:jK9 x y G Q):kXl x y G Q:=by
 obtain⟨b,hb,q⟩:=h
 unfold inR at hb
 split at hb
 ·rename_i xs hx
  split at hb
  ·rename_i hc;cases hb;exact .inl ⟨xs,hx,hc.1,hc.2,q⟩
  ·cases hb
 ·split at hb
  ·rename_i o ho;cases hb;exact .inr ⟨o,ho,q⟩
  ·cases hb
theorem o_inFu {X:L2.Cx} (hu:X.A.units+20<cLine):Op3 X (compareOp .In) qQl:=(o_in hu).imp fun _ _ _ _=>in_F'
theorem jYg {X:L2.Cx} (hu:X.A.units+20<cLine):Op3 X (compareOp .NotIn) jK9:=(qQw hu).imp fun _ _ _ _=>qJk
noncomputable def slR (G:Gp) (x:T) (lo hi:Option Int):Option Res:=match x with
 | .tup xs=>some (.val (.tup (cutT xs lo hi)))
 | .scr xs=>some (.newL (cutT xs lo hi))
 | .ref p=>match G p with
  | some (.lst xs)=>some (.newL (cutT xs lo hi))
  | _=>none
 | _=>none
def rSlF:T->Option Int->Option Int->Gp->VK3->Prop:=fun x lo hi G Q=>∃r,slR G x lo hi=some r/\fin3 r G Q
theorem sl_F' {x:T} {lo hi:Option Int} {G:Gp} {Q:VK3} (h:rSlF x lo hi G Q):rSlA x lo hi G Q:=by
 obtain⟨r,hr,q⟩:=h
 unfold slR at hr
 split at hr
 ·cases hr;exact .inr ⟨_,rfl,q⟩
 ·cases hr;exact .inl ⟨_,rfl,q⟩
 ·split at hr
  ·rename_i xs h1;cases hr;exact .inl ⟨xs,by simp only[jKw,h1,asL],q⟩
  ·cases hr
 ·cases hr
theorem sl_F {X:L2.Cx}:Sl3 X rSlF:=sl_any.imp fun _ _ _ _ _=>sl_F'
end L3
namespace L2
open PySem PySem.Spec PyProof.Rows
section
variable {X:Cx} {tg:Expr}
end
end L2
namespace L3
open PySem PySem.Spec PyProof.Rows L2
def Off (cs:List Addr) (g g':Heap):Prop:=∀c,c∉cs->∀o,g.get? c=some o->g'.get? c=some o
theorem Off.then {cs:List Addr} {g g' g'':Heap} (p:Off cs g g') (q:Off cs g' g''):Off cs g g'':=fun c n o e=>q c n o (p c n o e)
theorem Off.ext {cs:List Addr} {c:Addr} {g g':Heap} (h:Heap.ExtBut c g g') (m:c∈cs):Off cs g g':=fun b n o e=>h b o (fun q=>n (q▸m)) e
theorem Off.one {cs:List Addr} {c:Addr} {g g':Heap} (h:Heap.SameBut c g g') (m:c∈cs):Off cs g g':= .ext h.extBut m
theorem Off.new (cs:List Addr) (g:Heap) (o:Obj):Off cs g (g.push o):=fun _ _ _ e=>Heap.get?_push_of_some _ e
theorem Off.at {cs:List Addr} {g g':Heap} (p:Off cs g g') {c:Addr} {o:Obj} (n:c∉cs) (e:g.get? c=some o):g'.get? c=some o:=p c n o e
def jY0 (cs:List Addr) (S:Heap->Prop):Prop:=∀g g',Off cs g g'->S g->S g'
noncomputable def Draw (P:Program) (w:World) (A:Around) (i:Addr) (r:Option Value) (S S':Heap->Prop):Prop:=
 ∀(s:Shared) (Q E:Value->Shared->Prop),S s.heap->
  (∀x g,r=some x->S' g->Heap.SameBut i s.heap g->Q x {s with heap:=g})->
  (∀g e o,r=none->Heap.ExtBut i s.heap g->g.get? e=some o->o.cls= .type "StopIteration"->E (.ref e) {s with heap:=g})->
  wpAny (model P w) A (Builtin.SmallTypes.nextOf (.ref i)) Q E s
def OnTup (i t:Addr) (k:Nat) (xs:Array Value) (h:Heap):Prop:=h.IsTupleIter i t k/\h.IsTuple t xs
theorem OnTup.still {cs:List Addr} {i t:Addr} {k:Nat} {xs:Array Value} (hi:i∉cs) (ht:t∉cs):jY0 cs (OnTup i t k xs):=
 fun _ _ p ⟨⟨o,e,c⟩,⟨q,e',c'⟩⟩=>⟨⟨o,p.at hi e,c⟩,⟨q,p.at ht e',c'⟩⟩
theorem jQ3 {P:Program} {w:World} {A:Around} {i t:Addr} {k:Nat} {xs:Array Value} (hh:A.handled=none) (ne:t≠i):Draw P w A i xs[k]? (OnTup i t k xs) (OnTup i t (k+1) xs):=by
 rintro s Q E ⟨⟨o,ho,hc,hd⟩,q,hq,hqc,n,hn⟩ item stop
 have ty:s.TypeIs (.ref i) "tuple_iterator":=⟨o,ho,hc⟩
 refine wpAny_bind (wpAny_callSpecial?_slot (name:=Str.ofString "__next__") ty F.slot_tuple_iterator_next (wpAny_call_entry F.slot_tuple_iterator_next ty F.entry_tuple_iterator_next ?_ (F.args_tuple_iterator_next_1 _)))
 refine (show wpAny _ _ (field (.ref i) 0 >>= _) _ _ s from wpAny_bind (wpAny_field ho hd (x:= .ref t) rfl ?_))
 refine (show wpAny _ _ (if (Value.ref t == Value.none)=true then _ else field (.ref i) 1 >>= _) _ _ s from ?_)
 rw[if_neg (by exact Bool.false_ne_true)]
 refine wpAny_bind (wpAny_field ho hd (x:= .int k 0) rfl (show wpAny _ _ (seqItems? (.ref t) >>= _) _ _ s from wpAny_bind (wpAny_seqItems hq hn ?_)))
 cases hx:xs[k]? with
 | some x=>
  simp only[hx,Int.toNat_natCast]
  have up:OnTup i t (k+1) xs (s.heap.update i (Obj.mapFields (·.setIfInBounds 1 (rawInt ((k:Int)+1))))):=by
   refine⟨⟨_,Heap.get?_update_self _ ho (Obj.isFreed_of_fields (Obj.data_mapFields hd _)),(Obj.cls_mapFields ..).trans hc,?_⟩,q,(Heap.SameBut.update ..).extBut t q ne hq,hqc,n,hn⟩
   rw[Obj.data_mapFields hd];simp[rawInt]
  exact wpAny_bind (wpAny_setField ho hd (by simp) (wpAny_pure ⟨x,rfl,wpAny_pure (item x _ hx up (Heap.SameBut.update ..))⟩))
 | none=>
  simp only[hx,Int.toNat_natCast]
  refine wpAny_bind (wpAny_rule (wpAny_bind (wpAny_setField ho hd (by simp) (show wpAny _ _ (newExc (.type "StopIteration") [] >>= _) _ _ _ from wpAny_bind ?_))))
  simp only[newExc,newTuple,raiseNew]
  refine wpAny_bind (wpAny_newObj_type (wpAny_bind (m:=firstArgMember _ _) (wpAny_of_eq (a:=Value.none) (by first | rfl | (simp only[firstArgMember];rfl)) (wpAny_newObj_type ?_ (by size_fits)))) (by size_fits))
  refine wpAny_bind (wpAny_handled ?_);rw[show A.in1.handled=none from hh]
  exact wpAny_bind (wpAny_pure (wpAny_throw (stop _ _ _ hx (((Heap.SameBut.update ..).extBut.push _).push _) (Heap.get?_push_size _ rfl) rfl)))
structure ZipAt (z TI TO i j:Addr):Prop where
 nd:[z,TI,TO,i,j].Nodup
theorem kZn {P:Program} {w:World} {A:Around} {z TI TO i j:Addr} {r1 r2:Option Value} {S S' U U':Heap->Prop} {a b:Value} {s:Shared} {Q E:Value->Shared->Prop}
  (D1:Draw P w A i r1 S S') (D2:Draw P w A j r2 U U') (nd:ZipAt z TI TO i j) (s1:jY0 [z,TO,j] S) (s1':jY0 [z,TO,j] S') (s2:jY0 [z,TO,i] U) (s2':jY0 [z,TO,i] U')
  (hz:IsZip s.heap z TI TO .none) (hTI:IsPair s.heap TI (.ref i) (.ref j)) (hTO:IsPair s.heap TO a b) (h1:S s.heap) (h2:U s.heap)
  (item:∀x y g,r1=some x->r2=some y->IsZip g z TI TO (rawInt s.heap.objs.size)->IsPair g TO x y->S' g->U' g->IsPair g s.heap.objs.size x y->Off [z,TO,i,j] s.heap g->Q (.ref s.heap.objs.size) {s with heap:=g})
  (stop:∀g e o,(r1=none\/r2=none)->Off [z,TO,i,j] s.heap g->g.get? e=some o->o.cls= .type "StopIteration"->E (.ref e) {s with heap:=g}):
  wpAny (model P w) A (Builtin.«zip.__next__» ⟨[.ref z],[]⟩) (fun f s'=>∃v,f= .done (.ret v)/\Q v s') E s:=by
 have ap:=nd.nd
 simp only[List.nodup_cons,List.mem_cons,List.not_mem_nil,or_false,not_or] at ap
 obtain⟨⟨zTI,zTO,zi,zj⟩,⟨TITO,TIi,TIj⟩,⟨TOi,TOj⟩,ij,_⟩:=ap
 refine (show wpAny _ _ (field (.ref z) 2 >>= _) _ _ _ from wpAny_bind (wpAny_field hz rfl (x:= .bool false) rfl (show wpAny _ _ (field (.ref z) 3 >>= _) _ _ _ from wpAny_bind (wpAny_field hz rfl (x:= .ref TI) rfl (wpAny_bind (wpAny_seqItems hTI rfl ?_))))))
 refine (show wpAny _ _ (Builtin.SmallTypes.ownedTupleIsFree (.ref z) >>= _) _ _ _ from wpAny_bind ?_)
 unfold Builtin.SmallTypes.ownedTupleIsFree;refine wpAny_bind (wpAny_field hz rfl (x:= .none) rfl (wpAny_pure ?_))
 rw[if_pos rfl]
 refine wpAny_bind (wpAny_rule (wpAny_bind (wpAny_field hz rfl (x:= .ref TO) rfl (wpAny_bind (wpAny_setField_rec hz (by simp) fun g1 hz1 b1=>wpAny_bind ?_)))))
 replace hz1:IsZip g1 z TI TO .ellipsis:=hz1
 have o1:Off [z,TO,i,j] s.heap g1:= .one b1 (by simp)
 simp only[List.forIn_cons,List.forIn_nil,List.zipIdx_cons,List.zipIdx_nil]
 refine wpAny_bind (wpAny_bind (wpAny_onRaise (show wpAny _ _ (Builtin.SmallTypes.nextOf (.ref i) >>= _) _ _ _ from wpAny_bind (D1 _ _ _ (s1 _ _ (.one b1 (by simp)) h1) (fun x g2 ex S2 b2=>wpAny_pure ?_) fun g2 e o en b2 he hc=> ?_))))
 ·have o2:Off [z,TO,i,j] s.heap g2:=o1.then (.one b2 (by simp))
  have hz2:IsZip g2 z TI TO .ellipsis:=b2.extBut _ _ zi hz1
  have hp2:IsPair g2 TO a b:=b2.extBut _ _ TOi (b1.extBut _ _ (Ne.symm zTO) hTO)
  refine wpAny_bind (wpAny_seqItems hp2 rfl (wpAny_bind (wpAny_updateSeq_pair hp2 fun g3 hp3 b3=>wpAny_bind (wpAny_letGo (wpAny_pure ?_)))))
  replace hp3:IsPair g3 TO x b:=hp3
  have o3:Off [z,TO,i,j] s.heap g3:=o2.then (.one b3 (by simp))
  have hz3:IsZip g3 z TI TO .ellipsis:=b3.extBut _ _ zTO hz2
  have U3:U g3:=s2 _ _ (((Off.one b1 (by simp)).then (.one b2 (by simp))).then (.one b3 (by simp))) h2
  refine wpAny_bind (wpAny_bind (wpAny_onRaise (show wpAny _ _ (Builtin.SmallTypes.nextOf (.ref j) >>= _) _ _ _ from wpAny_bind (D2 _ _ _ U3 (fun y g4 ey U4 b4=>wpAny_pure ?_) fun g4 e o en b4 he hc=> ?_))))
  ·have hp4:IsPair g4 TO x b:=b4.extBut _ _ TOj hp3
   refine wpAny_bind (wpAny_seqItems hp4 rfl (wpAny_bind (wpAny_updateSeq_pair hp4 fun g5 hp5 b5=>wpAny_bind (wpAny_letGo (wpAny_pure (wpAny_pure ?_))))))
   replace hp5:IsPair g5 TO x y:=hp5
   have o5:Off [z,TO,i,j] s.heap g5:=(o3.then (.one b4 (by simp))).then (.one b5 (by simp))
   have hz5:IsZip g5 z TI TO .ellipsis:=b5.extBut _ _ zTO (b4.extBut _ _ zj hz3)
   have S5:S' g5:=s1' _ _ (((Off.one b3 (by simp)).then (.one b4 (by simp))).then (.one b5 (by simp))) S2
   have U5:U' g5:=s2' _ _ (.one b5 (by simp)) U4
   have n5:g5.objs.size=s.heap.objs.size:=by rw[b5.1,b4.1,b3.1,b2.1,b1.1]
   refine wpAny_bind (wpAny_seqItems hp5 rfl (wpAny_bind (wpAny_newTuple ?_)))
   refine (show wpAny _ _ (Builtin.SmallTypes.ownedTupleHandOut (.ref z) (.ref g5.objs.size) >>= _) _ _ _ from wpAny_bind ?_)
   unfold Builtin.SmallTypes.ownedTupleHandOut;refine wpAny_bind (wpAny_setField_rec (show IsZip (g5.push {cls:= .type "tuple",data:= .seq #[x,y]}) z TI TO .ellipsis from Heap.get?_push_of_some _ hz5) (by simp) fun g6 hz6 b6=> ?_)
   refine wpAny_setField_rec hz6 (by simp) fun g7 hz7 b7=>wpAny_pure ⟨_,rfl,?_⟩
   have o7:Off [z] g5 g7:=((Off.new _ _ _).then (.one b6 (by simp))).then (.one b7 (by simp))
   have zl:z<g5.objs.size:=Heap.lt_size hz5
   have new:IsPair g7 g5.objs.size x y:=b7.extBut _ _ (Nat.ne_of_gt zl) (b6.extBut _ _ (Nat.ne_of_gt zl) (Heap.get?_push_size _ rfl))
   replace hz7:IsZip g7 z TI TO (rawInt g5.objs.size):=hz7
   show Q (.ref g5.objs.size) _
   rw[n5] at hz7 new ⊢
   have w1:∀ {cs:List Addr},z∈cs->Off cs g5 g7:=fun m c n=>o7 c (by simp only[List.mem_singleton];exact fun q=>n (q▸m))
   exact item x y g7 ex ey hz7 (o7.at (by simpa using Ne.symm zTO) hp5) (s1' _ _ (w1 (by simp)) S5) (s2' _ _ (w1 (by simp)) U5) new (o5.then (w1 (by simp)))
  ·have hz4:IsZip g4 z TI TO .ellipsis:=b4 _ _ zj hz3
   have ez:e≠z:=fun q=>by subst q;rw[hz4] at he;cases he;simp at hc
   exact wpAny_setField_rec hz4 (by simp) fun g5 _ b5=>stop g5 e o (.inr en) ((o3.then (.ext b4 (by simp))).then (.one b5 (by simp))) (b5.extBut _ _ ez he) hc
 ·have hz2:IsZip g2 z TI TO .ellipsis:=b2 _ _ zi hz1
  have ez:e≠z:=fun q=>by subst q;rw[hz2] at he;cases he;simp at hc
  exact wpAny_setField_rec hz2 (by simp) fun g3 _ b3=>stop g3 e o (.inl en) ((o1.then (.ext b2 (by simp))).then (.one b3 (by simp))) (b3.extBut _ _ ez he) hc
theorem kQt {P:Program} {w:World} {A:Around} {z TI TO i j:Addr} {r1 r2:Option Value} {S S' U U':Heap->Prop} {a b:Value} {s:Shared} {Q:Option Value->Shared->Prop} {E:Value->Shared->Prop}
  (D1:Draw P w A.in1 i r1 S S') (D2:Draw P w A.in1 j r2 U U') (nd:ZipAt z TI TO i j) (s1:jY0 [z,TO,j] S) (s1':jY0 [z,TO,j] S') (s2:jY0 [z,TO,i] U) (s2':jY0 [z,TO,i] U')
  (hz:IsZip s.heap z TI TO .none) (hTI:IsPair s.heap TI (.ref i) (.ref j)) (hTO:IsPair s.heap TO a b) (h1:S s.heap) (h2:U s.heap)
  (item:∀x y g,r1=some x->r2=some y->IsZip g z TI TO (rawInt s.heap.objs.size)->IsPair g TO x y->S' g->U' g->IsPair g s.heap.objs.size x y->Off [z,TO,i,j] s.heap g->Q (some (.ref s.heap.objs.size)) {s with heap:=g})
  (stop:∀g,(r1=none\/r2=none)->Off [z,TO,i,j] s.heap g->Q none {s with heap:=g}):wpAny (model P w) A (pyNext (.ref z)) Q E s:=by
 have ty:s.TypeIs (.ref z) "zip":=⟨_,hz,rfl⟩
 refine wpAny_bind (wpAny_attempt (wpAny_callSpecial?_slot (name:=Str.ofString "__next__") ty F.slot_zip_next (wpAny_call_entry F.slot_zip_next ty F.entry_zip_next ?_ (F.args_zip_next_1 _))))
 refine kZn D1 D2 nd s1 s1' s2 s2' hz hTI hTO h1 h2 (fun x y g q1 q2 q3 q4 q5 q6 q7 q8=>wpAny_pure (item x y g q1 q2 q3 q4 q5 q6 q7 q8)) fun g e o en f he hc=> ?_
 exact wpAny_bind (wpAny_isInstance (T:="StopIteration") (b:=true) ⟨o,he,hc⟩ isSubtype_stop (wpAny_pure (stop g en f)))
def itOf (t:Addr):Obj:={cls:= .type "tuple_iterator",data:= .fields #[.ref t,.int 0 0]}
def jVy (xs:Array Value):Obj:={cls:= .type "tuple",data:= .seq xs}
noncomputable def zips (g:Heap) (t u:Addr):Heap:=
 let g2:=(g.push (itOf t)).push (itOf u)
 let g3:=g2.push (jVy #[.ref g.objs.size,.ref (g.push (itOf t)).objs.size])
 let g4:=g3.push (jVy #[.none,.none])
 g4.push {cls:= .type "zip",data:= .fields #[.none,.bool false,.bool false,.ref g2.objs.size,.ref g3.objs.size]}
theorem qK3 (t u:Addr) (xs ys:Array Value):
  Meets (Builtin.«zip.__new__» ⟨[.type "zip",.ref t,.ref u],[]⟩) fun _ R s=>s.heap.IsTuple t xs/\s.heap.IsTuple u ys/\R (.ok (.ret (.ref (((((s.heap.push (itOf t)).push (itOf u)).push (jVy #[.ref s.heap.objs.size,.ref (s.heap.push (itOf t)).objs.size])).push (jVy #[.none,.none])).objs.size)))) {s with heap:=zips s.heap t u}:=by
 refine .of_wp fun P w A R s ⟨ht,hu,h⟩=> ?_
 obtain⟨g,a1,a2,a3,a4⟩:=s
 have sb:=sub_zip
 have m1:Heap.IsTuple (Shared.heap ⟨g,a1,a2,a3,a4⟩) t xs:=ht
 have m2:Heap.IsTuple (Shared.heap ⟨g.push {cls:= .type "tuple_iterator",data:= .fields #[.ref t,.int 0 0]},a1,a2,a3,a4⟩) u ys:=hu.push _
 wp_walk using wpAny_pyIter_tuple m1,wpAny_pyIter_tuple m2
 exact⟨_,rfl,h⟩
theorem kZm {P:Program} {w:World} {A:Around} {s:Shared} {t u:Addr} {xs ys:Array Value} {Q E:Value->Shared->Prop} (ht:s.heap.IsTuple t xs) (hu:s.heap.IsTuple u ys)
  (h:∀g n,n=s.heap.objs.size->IsZip g (n+4) (n+2) (n+3) .none->IsPair g (n+2) (.ref n) (.ref (n+1))->IsPair g (n+3) .none .none->OnTup n t 0 xs g->OnTup (n+1) u 0 ys g->
   (∀c o,s.heap.get? c=some o->g.get? c=some o)->Q (.ref (n+4)) {s with heap:=g}):wpAny (model P w) A (call (.type "zip") [.ref t,.ref u]) Q E s:=by
 refine callType_new F.called_zip (by decide) (F.typeCall_zip_2 _ _) (F.newCall_zip_2 _ _) (fun obj=>F.args_object_init_3 obj _ _) F.entry_zip_new (qK3 t u xs ys) ⟨ht,hu,?_⟩
 have hn:∀(g:Heap) (o:Obj),(g.push o).objs.size=g.objs.size+1:=fun _ _=>Heap.size_push ..
 have up:∀ {g:Heap} {o q:Obj} {c:Addr},g.get? c=some q->(g.push o).get? c=some q:=fun e=>Heap.get?_push_of_some _ e
 have at':∀(g:Heap) (o:Obj),o.isFreed=false->(g.push o).get? g.objs.size=some o:=fun g o h=>Heap.get?_push_size _ h
 have kp:∀c o,s.heap.get? c=some o->(zips s.heap t u).get? c=some o:=fun c o e=>up (up (up (up (up e))))
 obtain⟨q,hq,hr⟩:=ht
 obtain⟨q',hq',hr'⟩:=hu
 have c0:(zips s.heap t u).get? s.heap.objs.size=some (itOf t):=up (up (up (up (at' _ _ rfl))))
 have c1:(zips s.heap t u).get? (s.heap.push (itOf t)).objs.size=some (itOf u):=up (up (up (at' _ _ rfl)))
 have c2:=up (g:=((s.heap.push (itOf t)).push (itOf u)).push (jVy #[.ref s.heap.objs.size,.ref (s.heap.push (itOf t)).objs.size])) (o:=jVy #[.none,.none]) (at' ((s.heap.push (itOf t)).push (itOf u)) (jVy #[.ref s.heap.objs.size,.ref (s.heap.push (itOf t)).objs.size]) rfl)
 have c2':(zips s.heap t u).get? ((s.heap.push (itOf t)).push (itOf u)).objs.size=some (jVy #[.ref s.heap.objs.size,.ref (s.heap.push (itOf t)).objs.size]):=up c2
 have c3:(zips s.heap t u).get? (((s.heap.push (itOf t)).push (itOf u)).push (jVy #[.ref s.heap.objs.size,.ref (s.heap.push (itOf t)).objs.size])).objs.size=some (jVy #[.none,.none]):=up (at' _ _ rfl)
 have c4:(zips s.heap t u).get? ((((s.heap.push (itOf t)).push (itOf u)).push (jVy #[.ref s.heap.objs.size,.ref (s.heap.push (itOf t)).objs.size])).push (jVy #[.none,.none])).objs.size=some {cls:= .type "zip",data:= .fields #[.none,.bool false,.bool false,.ref ((s.heap.push (itOf t)).push (itOf u)).objs.size,.ref (((s.heap.push (itOf t)).push (itOf u)).push (jVy #[.ref s.heap.objs.size,.ref (s.heap.push (itOf t)).objs.size])).objs.size]}:=at' _ _ rfl
 show _/\_
 simp only[hn] at c1 c2' c3 c4 ⊢
 exact⟨⟨_,c4,rfl⟩,h _ _ rfl c4 c2' c3 ⟨⟨_,c0,rfl,rfl⟩,q,kp _ _ hq,hr⟩ ⟨⟨_,c1,rfl,rfl⟩,q',kp _ _ hq',hr'⟩ kp⟩
noncomputable def Itz (K:PySem.W.Frag) (a1 a2:Addr):It:=
 ⟨fun i H=>∃xs ys x y,SqT K H a1 xs/\SqT K H a2 ys/\xs[i]? =some x/\ys[i]? =some y,
  fun i H v H'=>∃p x y,H p=none/\v= .ref p/\(∀xs,SqT K H a1 xs->xs[i]? =some x)/\(∀ys,SqT K H a2 ys->ys[i]? =some y)/\H'=upd H p (.tup [x,y]),
  fun i H=>∃xs ys,SqT K H a1 xs/\SqT K H a2 ys/\(xs.length<=i\/ys.length<=i)⟩
theorem qKg {z TI TO i1 i2 a1 a2:Addr} (D:ZipApart z TI TO i1 i2 a1 a2):ZipAt z TI TO i1 i2:=
 ⟨by simp[D.TIz.symm,D.TOz.symm,D.i1z.symm,D.i2z.symm,D.TITO,D.TIi1,D.TIi2,D.TOi1,D.TOi2,D.i12]⟩
theorem jZ2 {z TI TO i1 i2 a1 a2:Addr} {k:Nat} {xs:Array Value} (D:ZipApart z TI TO i1 i2 a1 a2):jY0 [z,TO,i2] (OnTup i1 a1 k xs):=
 OnTup.still (by simp[D.i1z,D.TOi1.symm,D.i12]) (by simp[D.l1z,D.l1TO,D.l1i2])
theorem jZ1 {z TI TO i1 i2 a1 a2:Addr} {k:Nat} {xs:Array Value} (D:ZipApart z TI TO i1 i2 a1 a2):jY0 [z,TO,i1] (OnTup i2 a2 k xs):=
 OnTup.still (by simp[D.i2z,D.TOi2.symm,D.i12.symm]) (by simp[D.l2z,D.l2TO,D.l2i1])
theorem kZq {P:Program} {w:World} {K:PySem.W.Frag} {elts:List Expr} {k:Nat} {pos:Pos} (z TI TO i1 i2 a1 a2:Addr) (D:ZipApart z TI TO i1 i2 a1 a2):
  Turn P w K (.Tuple elts k pos) (Itz K a1 a2) [z,TI,TO,i1,i2] z (fun i h=>IsZip h z TI TO .none/\IsPair h TI (.ref i1) (.ref i2)/\(∃a b,IsPair h TO a b)/\h.IsTupleIter i1 a1 i/\h.IsTupleIter i2 a2 i) where
 mem:=by simp
 obj:=fun i h ⟨hz,hTI,⟨a,b,hTO⟩,h1,h2⟩ c hc=>by
  simp only[List.mem_cons,List.not_mem_nil,or_false] at hc
  rcases hc with rfl | rfl | rfl | rfl | rfl
  ·exact⟨_,hz,fun v z=>nomatch (show Data.fields _=Data.cell v from z)⟩
  ·exact⟨_,hTI,fun v z=>nomatch (show Data.seq _ _=Data.cell v from z)⟩
  ·exact⟨_,hTO,fun v z=>nomatch (show Data.seq _ _=Data.cell v from z)⟩
  ·obtain⟨o,e,c,d⟩:=h1;exact⟨o,e,fun v z=>by rw[d] at z;cases z⟩
  ·obtain⟨o,e,c,d⟩:=h2;exact⟨o,e,fun v z=>by rw[d] at z;cases z⟩
 keep:=fun i h h' ⟨hz,hTI,⟨a,b,hTO⟩,h1,h2⟩ kp=>⟨kp z (by simp) _ hz,kp TI (by simp) _ hTI,⟨a,b,kp TO (by simp) _ hTO⟩,h1.at fun o q=>kp i1 (by simp) o q,h2.at fun o q=>kp i2 (by simp) o q⟩
 item:=by
  rintro X hP hw hK hc i pins s σ H E I hf ⟨hz,hTI,⟨a,b,hTO⟩,h1,h2⟩ hg
  subst hP hw hK
  obtain⟨xs,ys,x,y,hq1,hq2,hx,hy⟩:=hg
  obtain⟨its1,rv1,p1,hz1⟩:=I.tuple hq1
  obtain⟨its2,rv2,p2,hz2⟩:=I.tuple hq2
  obtain⟨u1,hu1,ru1⟩:=rv1.get hx
  obtain⟨u2,hu2,ru2⟩:=rv2.get hy
  refine kQt (r1:=its1.toArray[i]?) (r2:=its2.toArray[i]?) (jQ3 (I.ok.hd hc) D.l1i1) (jQ3 (I.ok.hd hc) D.l2i2) (qKg D) (jZ2 D) (jZ2 D) (jZ1 D) (jZ1 D) hz hTI hTO ⟨h1,p1⟩ ⟨h2,p2⟩ (fun x' y' g1 ex ey ho gTO g3 g4 hT hk=> ?_) (fun g en _=> ?_)
  rotate_left
  ·rcases en with e | e
   ·rw[show its1.toArray[i]? =some u1 by simpa using hu1] at e;cases e
   ·rw[show its2.toArray[i]? =some u2 by simpa using hu2] at e;cases e
  obtain rfl:u1=x':=by simpa[hu1] using ex
  obtain rfl:u2=y':=by simpa[hu2] using ey
  refine⟨_,rfl,wpAny_letOwnedTupleGo_zip ho fun g2 gz hs2=> ?_⟩
  have hzl:z<s.heap.objs.size:=Heap.lt_size hz
  have hp2:∀b o,b∉[z,TI,TO,i1,i2]->s.heap.get? b=some o->g2.get? b=some o:=fun b o hb q=>by
   simp only[List.mem_cons,List.not_mem_nil,or_false,not_or] at hb
   exact (hs2.2 b hb.1).trans (hk b (by simp only[List.mem_cons,List.not_mem_nil,or_false,not_or];exact⟨hb.1,hb.2.2.1,hb.2.2.2.1,hb.2.2.2.2⟩) o q)
  have hT2:g2.get? s.heap.objs.size=some {cls:= .type "tuple",data:= .seq #[u1,u2]}:=(hs2.2 _ (Nat.ne_of_gt hzl)).trans hT
  have I2:=jVf (t':=s.toks) (h':=g2) (p:=s.heap.objs.size) (vs:=[x,y]) (us:=[u1,u2]) I hp2 hf (Nat.le_refl _) ⟨_,hT2,rfl,_,rfl,rfl⟩ (.cons ru1 (.cons ru2 .nil)) (by show 2<=sizeLine;decide)
  refine⟨.ref s.heap.objs.size,_,I2,rfl,⟨_,x,y,I.hok.fresh (Nat.le_refl _),rfl,fun zs hz=>by rw[I.tuple_inj hz hq1];exact hx,fun zs hz=>by rw[I.tuple_inj hz hq2];exact hy,rfl⟩,
   ⟨gz,(hs2.2 _ D.TIz).trans (hk _ (by simp[D.TIz,D.TITO,D.TIi1,D.TIi2]) _ hTI),⟨_,_,(hs2.2 _ D.TOz).trans gTO⟩,g3.1.at fun o q=>(hs2.2 _ D.i1z).trans q,g4.1.at fun o q=>(hs2.2 _ D.i2z).trans q⟩,fun b hb=> ?_⟩
  have hbs:∃o,s.heap.get? b=some o:=by
   have hbq:=hb
   simp only[List.mem_cons,List.not_mem_nil,or_false] at hbq
   rcases hbq with rfl | rfl | rfl | rfl | rfl
   ·exact⟨_,hz⟩
   ·exact⟨_,hTI⟩
   ·exact⟨_,hTO⟩
   ·obtain⟨o,q,_⟩:=h1;exact⟨o,q⟩
   ·obtain⟨o,q,_⟩:=h2;exact⟨o,q⟩
  obtain⟨o,q⟩:=hbs
  rw[jJu (Nat.ne_of_lt (Heap.lt_size q))]
  exact (hf b hb).1
 done:=by
  rintro X hP hw hK hc i pins s σ H E I hf ⟨hz,hTI,⟨a,b,hTO⟩,h1,h2⟩ hg
  subst hP hw hK
  obtain⟨xs,ys,hq1,hq2,hx⟩:=hg
  obtain⟨its1,rv1,p1,hz1⟩:=I.tuple hq1
  obtain⟨its2,rv2,p2,hz2⟩:=I.tuple hq2
  have hl1:=rv1.length
  have hl2:=rv2.length
  refine kQt (r1:=its1.toArray[i]?) (r2:=its2.toArray[i]?) (jQ3 (I.ok.hd hc) D.l1i1) (jQ3 (I.ok.hd hc) D.l2i2) (qKg D) (jZ2 D) (jZ2 D) (jZ1 D) (jZ1 D) hz hTI hTO ⟨h1,p1⟩ ⟨h2,p2⟩ (fun x' y' g1 ex ey _ _ _ _ _ _=> ?_) (fun g1 _ hk=>⟨rfl,jZv (t':=s.toks) (fp:=[z,TI,TO,i1,i2]) I (fun b o hb q=> ?_) hf⟩)
  ·have q1:i<its1.length:=by simpa using (Array.getElem?_eq_some_iff.mp ex).1
   have q2:i<its2.length:=by simpa using (Array.getElem?_eq_some_iff.mp ey).1
   omega
  ·exact hk b (fun m=>hb (by simp only[List.mem_cons,List.not_mem_nil,or_false] at m ⊢; rcases m with h | h | h | h<;>simp[h])) o q
 self:=fun _ _ _ _ _ ⟨hz,_⟩ h=>wpAny_pyIter_zip hz h
theorem qKh {n a b:Nat} (ha:a<n) (hb:b<n):ZipApart (n+4) (n+2) (n+3) n (n+1) a b:=by
 constructor<;>(show @Ne Nat _ _;omega)
def zipT (xs ys:List T):List T:=(xs.zip ys).map fun p=>T.tup [p.1,p.2]
end L3
namespace L3
open PySem
theorem atN {α:Type} {xs:List α} {n:Nat}:L2.atI xs (n:Int)=xs[n]? :=by
 unfold L2.atI L2.ixN
 by_cases h:n<xs.length
 ·simp[h]
 ·simp[h]
theorem at0 {α:Type} {x:α} {xs:List α}:L2.atI (x::xs) 0=some x:=(atN (n:=0)).trans rfl
theorem at1 {α:Type} {x y:α} {xs:List α}:L2.atI (x::y::xs) 1=some y:=(atN (n:=1)).trans rfl
theorem at2 {α:Type} {x y z:α} {xs:List α}:L2.atI (x::y::z::xs) 2=some z:=(atN (n:=2)).trans rfl
theorem atZ {α:Type} {xs:List α} {i:Int} (h:0<=i):L2.atI xs i=xs[i.toNat]? :=by
 obtain⟨n,rfl⟩:=Int.eq_ofNat_of_zero_le h
 simpa using atN
theorem qUc {n k:Nat} (h:k<n):L2.ixN n (k:Int)=some k:=by simp[L2.ixN,h]
theorem ix0 {n:Nat}:L2.ixN (n+1) 0=some 0:=qUc (k:=0) (by omega)
theorem ix1 {n:Nat}:L2.ixN (n+2) 1=some 1:=qUc (k:=1) (by omega)
theorem ix2 {n:Nat}:L2.ixN (n+3) 2=some 2:=qUc (k:=2) (by omega)
theorem ix30:L2.ixN 3 0=some 0:=ix0
theorem ix31:L2.ixN 3 1=some 1:=ix1
theorem ix32:L2.ixN 3 2=some 2:=ix2
theorem ixZ {n:Nat} {k:Int} (h0:0<=k) (h:k<n):L2.ixN n k=some k.toNat:=by simp[L2.ixN,h0,h]
theorem qJ9 {G:Gp} {i j:Int}:addR G (.int i) (.int j)=some (.val (.int (i+j))):=rfl
theorem jXz {G:Gp} {p q:Addr} {xs ys:List T} (h1:G p=some (.lst xs)) (h2:G q=some (.lst ys)) (hz:xs.length+ys.length<=sizeLine):addR G (.ref p) (.ref q)=some (.newL (xs++ys)):=by simp only[addR,h1,h2,hz,if_true]
theorem qJl {G:Gp} {i j:Int}:mulR G (.int i) (.int j)=some (.val (.int (i*j))):=rfl
theorem qJn {i j:Int}:mulC (.int i) (.int j)=L2.CMul i j:=rfl
theorem qJm {p:Addr} {j:Int}:mulC (.ref p) (.int j)=True:=rfl
theorem qUi {t:T} {G:Gp} {Q:VK3}:fin3 (.val t) G Q=Q t G:=rfl
theorem qUj {xs:List T} {G:Gp} {Q:VK3}:fin3 (.newL xs) G Q=∀p,G p=none->Q (.ref p) (gup G p (.lst xs)):=rfl
theorem qQ8 {G:Gp} {xs:List T} {i:Int}:ixR G (.tup xs) (.int i)=L2.atI xs i:=rfl
theorem qQ9 {G:Gp} {xs:List T} {i:Int}:ixR G (.scr xs) (.int i)=L2.atI xs i:=rfl
theorem jVa {G:Gp} {p:Addr} {xs:List T} {i:Int} (h:G p=some (.lst xs)):ixR G (.ref p) (.int i)=L2.atI xs i:=by simp only[ixR,seqT,h,asL]
theorem kZw {G:Gp} {p:Addr} {xs:List T} {k:Int} {j:Nat} {v:T} (h:G p=some (.lst xs)) (hj:L2.ixN xs.length k=some j):setR G (.ref p) (.int k) v=some (gup G p (.lst (xs.set j v))):=by simp only[setR,h,hj]
theorem kZz {G:Gp} {xs:List T}:seqT G (.tup xs)=some xs:=rfl
theorem jJi {G:Gp} {p:Addr} {xs:List T} (h:G p=some (.lst xs)):seqT G (.ref p)=some xs:=by simp only[seqT,h,asL]
theorem qKj {G:Gp} {p:Addr} {xs:List T} {k:Int} {v:T} (h:G p=some (.lst xs)):setR G (.ref p) (.int k) v=(L2.ixN xs.length k).map fun j=>gup G p (.lst (xs.set j v)):=by
 cases e:L2.ixN xs.length k with
 | none=>simp only[setR,h,e,Option.map_none]
 | some j=>simp only[setR,h,e,Option.map_some]
theorem kZx {G:Gp} {p:Addr} {xs:List T} {k:Int} {v:T}:setR (gup G p (.lst xs)) (.ref p) (.int k) v=(L2.ixN xs.length k).map fun j=>gup G p (.lst (xs.set j v)):=by
 rw[qKj jJd];simp only[kYp]
theorem qUa {G:Gp} {p:Addr} {xs:List T} {i:Int}:ixR (gup G p (.lst xs)) (.ref p) (.int i)=L2.atI xs i:=jVa jJd
theorem kZ0 {G:Gp} {p:Addr} {xs:List T}:seqT (gup G p (.lst xs)) (.ref p)=some xs:=jJi jJd
noncomputable def ForAt (g:TG3) (tb:TS3) (D:Ends3) (τ:St3) (xs:List T) (stay:Gp->Prop) (G:Gp):Prop:=∃P:Nat->St3->Gp->Prop,P 0 τ G/\(∀i τ G,i<=xs.length->P i τ G->stay G)/\
 (∀i x τ G,xs[i]? =some x->P i τ G->g x τ G fun τ2 G2=>tb {D with nx:=P (i+1),ct:=P (i+1),bk:=D.nx} τ2 G2)/\∀ τ G,P xs.length τ G->D.nx τ G
theorem jJ6 {wi:TI3} {g:TG3} {tb:TS3} {D:Ends3} {τ:St3} {G:Gp}:tFor wi g tb D τ G=wi τ G fun xs stay G1=>ForAt g tb D τ xs stay G1:=rfl
def kU3 (mask:List Bool) (g:TG3) (tif:TT3) (te:TE3) (τ:St3) (xs:List T) (stay:Gp->Prop) (G:Gp) (Q:VK3):Prop:=jZz mask g tif te τ xs stay G Q
theorem kZr {mask:List Bool} {wi:TI3} {g:TG3} {tif:TT3} {te:TE3} {τ:St3} {G:Gp} {Q:VK3}:jKm mask wi g tif te τ G Q=wi τ G fun xs stay G1=>kU3 mask g tif te τ xs stay G1 Q:=rfl
def Sub (G G':Gp):Prop:=∀c o,G c=some o->G' c=some o
theorem Sub.refl (G:Gp):Sub G G:=fun _ _ h=>h
theorem Sub.trans {G G1 G2:Gp} (h:Sub G G1) (h':Sub G1 G2):Sub G G2:=fun c o e=>h' c o (h c o e)
theorem Sub.new {p:Addr} {G:Gp} {o:GO} (hp:G p=none):Sub G (gup G p o):=fun c u e=>by rw[jJm];exact e;rintro rfl;rw[hp] at e;cases e
theorem Sub.over {p:Addr} {G G':Gp} {o:GO} (h:Sub G G') (hp:G p=none):Sub G (gup G' p o):=fun c u e=>by rw[jJm];exact h c u e;rintro rfl;rw[hp] at e;cases e
theorem Sub.none {G G':Gp} {p:Addr} (h:Sub G G') (hp:G' p=none):G p=none:=by
 cases e:G p with
 | none=>rfl
 | some o=>rw[h p o e] at hp;cases hp
theorem jKb {G:Gp} {a p:Addr} {o:GO} (h:gup G a o p=none):p≠a/\G p=none:=by
 by_cases e:p=a
 ·subst e;rw[jJd] at h;cases h
 ·rw[jJm e] at h;exact⟨e,h⟩
theorem jJh {G:Gp} {a p:Addr} {o:GO} (h:G a=some o) (hp:G p=none):a≠p:=by rintro rfl;rw[h] at hp;cases hp
theorem jKr {α β:Type} {enc:α->β} {es:List α} {i:Nat} {x:β} (h:(es.map enc)[i]? =some x):∃e,es[i]? =some e/\x=enc e:=by
 rw[List.getElem?_map] at h
 cases e1:es[i]? with
 | none=>rw[e1] at h;cases h
 | some e=>rw[e1] at h;exact⟨e,rfl,(Option.some.inj h).symm⟩
theorem jXx {α:Type} {mask:List Bool} {g:TG3} {tif:TT3} {te:TE3} {τ:St3} {es:List α} {enc:α->T} {stay:Gp->Prop} {G:Gp} {Q:VK3} (f:α->Option T) (hz:es.length<=sizeLine) (hst:∀G',Sub G G'->stay G')
  (h:∀(i:Nat) e,es[i]? =some e->∀G' (K:T->Gp->Prop) (K0:Gp->Prop),Sub G G'->(∀y G4,f e=some y->Sub G' G4->K y G4)->(f e=none->∀G4,Sub G' G4->K0 G4)->g (enc e) (msk mask τ) G' fun τ2 G2=>tif τ2 G2 fun b G3=>if b=true then te τ2 G3 K else K0 G3)
  (hq:∀D G',G D=none->G' D=some (.lst (es.filterMap f))->Sub G G'->Q (.ref D) G'):kU3 mask g tif te τ (es.map enc) stay G Q:=by
 intro D hD
 refine⟨fun i acc G'=>acc=(es.take i).filterMap f/\G' D=some (.lst acc)/\Sub G G',⟨by simp,jJd,.new hD⟩,?_,?_,?_⟩
 ·rintro i acc G' hi ⟨ea,eg,hs⟩
  exact⟨hst G' hs,eg⟩
 ·rintro i x acc G' hx0 ⟨ea,eg,hs⟩
  obtain⟨e,hx,rfl⟩:=jKr hx0
  have hi:i<es.length:=(List.getElem?_eq_some_iff.mp hx).1
  have tk:es.take (i+1)=es.take i++[e]:=by rw[List.take_succ,hx];rfl
  have hlen:acc.length<sizeLine:=by
   have h1:acc.length<=(es.take i).length:=by rw[ea];exact List.length_filterMap_le _ _
   rw[List.length_take] at h1;omega
  refine h i e hx G' _ _ hs (fun y G4 hy h4=>⟨h4 D _ eg,hlen,?_,jJd,(hs.trans h4).over hD⟩) fun hn G4 h4=>⟨?_,h4 D _ eg,hs.trans h4⟩
  ·rw[tk,List.filterMap_append,<-ea];simp[hy]
  ·rw[tk,List.filterMap_append,<-ea];simp[hn]
 ·rintro acc G' ⟨ea,eg,hs⟩
  rw[List.length_map,List.take_length] at ea
  rw[ea] at eg
  exact hq D G' hD eg hs
theorem jJ8 {α:Type} {mask:List Bool} {g:TG3} {tif:TT3} {te:TE3} {τ:St3} {es:List α} {enc:α->T} {stay:Gp->Prop} {G:Gp} {Q:VK3} (f:α->T) (hz:es.length<=sizeLine) (hst:∀G',Sub G G'->stay G')
  (h:∀(i:Nat) e,es[i]? =some e->∀G' (K:T->Gp->Prop) (K0:Gp->Prop),Sub G G'->(∀G4,Sub G' G4->K (f e) G4)->g (enc e) (msk mask τ) G' fun τ2 G2=>tif τ2 G2 fun b G3=>if b=true then te τ2 G3 K else K0 G3)
  (hq:∀D G',G D=none->G' D=some (.lst (es.map f))->Sub G G'->Q (.ref D) G'):kU3 mask g tif te τ (es.map enc) stay G Q:=by
 refine jXx (fun e=>some (f e)) hz hst (fun i e he G' K K0 hs hk _=>h i e he G' K K0 hs fun G4 h4=>hk _ G4 rfl h4) fun D G' hD h1 h2=>hq D G' hD ?_ h2
 rw[h1];congr 2;induction es with
 | nil=>rfl
 | cons a as ih=>simp
theorem jKp {G:Gp} {p:Addr} {xs:List T} (h:G p=some (.lst xs)):tyT G "list" (.ref p)=True:=by simp[tyT,h]
theorem qK7 {G:Gp} {p:Addr} {xs:List T}:tyT (gup G p (.lst xs)) "list" (.ref p)=True:=jKp jJd
theorem jXa {α:Type} {mask:List Bool} {g:TG3} {tif:TT3} {te:TE3} {τ:St3} {es:List α} {enc:α->T} {stay:Gp->Prop} {G:Gp} {Q:VK3} (f:α->List T) (hz:es.length<=sizeLine) (hst:∀G',Sub G G'->stay G')
  (h:∀(i:Nat) e,es[i]? =some e->∀G' (K:T->Gp->Prop) (K0:Gp->Prop),Sub G G'->(∀p G4,G' p=none->G4 p=some (.lst (f e))->Sub G' G4->K (.ref p) G4)->g (enc e) (msk mask τ) G' fun τ2 G2=>tif τ2 G2 fun b G3=>if b=true then te τ2 G3 K else K0 G3)
  (hq:∀D rs G',G D=none->G' D=some (.lst (rs.map T.ref))->Sub G G'->rs.length=es.length->(D::rs).Nodup->(∀(i:Nat) (r:Addr) (e:α),rs[i]? =some r->es[i]? =some e->G r=none/\G' r=some (.lst (f e)))->Q (.ref D) G'):kU3 mask g tif te τ (es.map enc) stay G Q:=by
 intro D hD
 refine⟨fun i acc G'=>∃rs:List Addr,acc=rs.map T.ref/\rs.length=i/\G' D=some (.lst acc)/\Sub G G'/\(D::rs).Nodup/\(∀(i:Nat) (r:Addr) (e:α),rs[i]? =some r->es[i]? =some e->G r=none/\G' r=some (.lst (f e))),⟨[],rfl,rfl,jJd,.new hD,by simp,by simp⟩,?_,?_,?_⟩
 ·rintro i acc G' hi ⟨rs,ea,hl,eg,hs,hn,hr⟩
  exact⟨hst G' hs,eg⟩
 ·rintro i x acc G' hx0 ⟨rs,ea,hl,eg,hs,hn,hr⟩
  obtain⟨e,hx,rfl⟩:=jKr hx0
  have hi:i<es.length:=(List.getElem?_eq_some_iff.mp hx).1
  have hlen:acc.length<sizeLine:=by rw[ea,List.length_map];omega
  refine h i e hx G' _ _ hs fun p G4 hp h4 s4=>⟨s4 D _ eg,hlen,rs++[p],by simp[ea],by simp[hl],jJd,(hs.trans s4).over hD,?_,?_⟩
  ·have hDp:D≠p:=jJh eg hp
   have hpr:p∉rs:=by
    intro hm
    obtain⟨j,hj⟩:∃j:Nat,_:=List.getElem?_of_mem hm
    have hjl:j<rs.length:=(List.getElem?_eq_some_iff.mp hj).1
    have:=(hr j p es[j] hj (List.getElem?_eq_getElem (by omega))).2
    rw[hp] at this;cases this
   rw[List.nodup_cons] at hn
   simp only[List.nodup_cons,List.mem_append,List.mem_singleton,not_or,List.nodup_append,List.not_mem_nil,not_false_eq_true,List.nodup_nil,and_true]
   exact⟨⟨hn.1,hDp⟩,hn.2,trivial,fun a ha b hb=>by subst hb;rintro rfl;exact hpr ha⟩
  ·intro j r e' hj he'
   have hjl:j<rs.length+1:=by have:=(List.getElem?_eq_some_iff.mp hj).1;simpa using this
   by_cases hjr:j<rs.length
   ·rw[List.getElem?_append_left hjr] at hj
    obtain⟨q1,q2⟩:=hr j r e' hj he'
    have:r≠D:=by rintro rfl;exact (List.nodup_cons.mp hn).1 (List.mem_of_getElem? hj)
    exact⟨q1,by rw[jJm this];exact s4 _ _ q2⟩
   ·have hj2:j=rs.length:=by omega
    subst hj2
    rw[List.getElem?_append_right (Nat.le_refl _)] at hj
    simp at hj
    subst hj
    rw[hl,hx] at he';cases he'
    exact⟨hs.none hp,by rw[jJm (jJh eg hp).symm];exact h4⟩
 ·rintro acc G' ⟨rs,ea,hl,eg,hs,hn,hr⟩
  rw[ea] at eg
  exact hq D rs G' hD eg hs (by simpa using hl) hn hr
end L3
namespace L3
open PySem PySem.Spec PyProof.Rows L2
section
variable {X:Cx}
end
theorem kY3 {P:Program} {w:World} {A:Around} (hh:A.handled=none) (it t:Addr) (ne:t≠it) (xs:Array Value):Draws P w A it [it,t] xs.size (fun i v=>xs[i]? =some v) (fun i h=>OnTup it t i xs h) where
 live:=fun _ _ ⟨⟨o,ho,_⟩,_⟩=>⟨o,ho⟩
 frame:=fun _ _ _ ⟨⟨o,ho,r⟩,⟨q,hq,r'⟩⟩ k=>⟨⟨o,k it (by simp) o ho,r⟩,⟨q,k t (by simp) q hq,r'⟩⟩
 item:=fun i s Q E hi st hQ=>jQ3 hh ne s Q E st (fun x g e s' b=>hQ x g s.toks e s' b) fun _ _ _ e=>by rw[Array.getElem?_eq_getElem hi] at e;cases e
 done:=fun s Q E st hE=>jQ3 hh ne s Q E st (fun x _ e=>by rw[Array.getElem?_eq_none (Nat.le_refl _)] at e;cases e) fun g e o _ b he hc=>hE g e b ⟨o,he,hc⟩
def kUw (i:Addr):Obj:={cls:= .type "enumerate",data:= .fields #[.none,.bool false,.ref i,rawInt 0,.none,.none]}
theorem qJ4 (t:Addr) (xs:Array Value):
  Meets (Builtin.«enumerate.__new__» ⟨[.type "enumerate",.ref t],[]⟩) fun _ R s=>s.heap.IsTuple t xs/\R (.ok (.ret (.ref (s.heap.push (itOf t)).objs.size))) {s with heap:=(s.heap.push (itOf t)).push (kUw s.heap.objs.size)}:=by
 refine .of_wp fun P w A R s ⟨ht,h⟩=> ?_
 obtain⟨g,a1,a2,a3,a4⟩:=s
 have sb:=sub_enumerate
 have m1:Heap.IsTuple (Shared.heap ⟨g,a1,a2,a3,a4⟩) t xs:=ht
 obtain⟨⟨c,dct,dt,sl⟩,hl,hc,n,hd⟩:=id ht
 replace hc:c= .type "tuple":=hc
 replace hd:dt= .seq xs n:=hd
 subst hc hd
 wp_walk using AutoSeq1.wpAny_loadPart' hl
 refine wpAny_stack_any (fun stk=>wpAny_pure ?_)
 split
 ·rename_i k _ _ _ _ _
  cases (k == Value.type "enumerate")<;>(wp_walk using AutoSeq1.wpAny_loadPart' hl,wpAny_pyIter_tuple m1;exact⟨_,rfl,h⟩)
 ·wp_walk using AutoSeq1.wpAny_loadPart' hl,wpAny_pyIter_tuple m1;exact⟨_,rfl,h⟩
theorem kYy {P:Program} {w:World} {A:Around} {s:Shared} {t:Addr} {xs:Array Value} {Q E:Value->Shared->Prop} (ht:s.heap.IsTuple t xs)
  (h:∀g n,n=s.heap.objs.size->IsEnum g (n+1) n 0 .none->OnTup n t 0 xs g->(∀c o,s.heap.get? c=some o->g.get? c=some o)->Q (.ref (n+1)) {s with heap:=g}):wpAny (model P w) A (call (.type "enumerate") [.ref t]) Q E s:=by
 refine callType_new F.called_enumerate (by decide) (F.typeCall_enumerate_1 _) (F.newCall_enumerate_1 _) (fun obj=>F.args_object_init_2 obj _) F.entry_enumerate_new (qJ4 t xs) ⟨ht,?_⟩
 have hn:∀(g:Heap) (o:Obj),(g.push o).objs.size=g.objs.size+1:=fun _ _=>Heap.size_push ..
 have up:∀ {g:Heap} {o q:Obj} {c:Addr},g.get? c=some q->(g.push o).get? c=some q:=fun e=>Heap.get?_push_of_some _ e
 obtain⟨q,hq,hr⟩:=ht
 have c0:((s.heap.push (itOf t)).push (kUw s.heap.objs.size)).get? s.heap.objs.size=some (itOf t):=up (Heap.get?_push_size _ rfl)
 have c1:((s.heap.push (itOf t)).push (kUw s.heap.objs.size)).get? (s.heap.push (itOf t)).objs.size=some (kUw s.heap.objs.size):=Heap.get?_push_size _ rfl
 show _/\_
 simp only[hn] at c1 ⊢
 exact⟨⟨_,c1,rfl⟩,h _ _ rfl c1 ⟨⟨_,c0,rfl,rfl⟩,q,up (up hq),hr⟩ fun c o e=>up (up e)⟩
theorem jQ2 {P:Program} {w:World} {A:Around} {s:Shared} {e it t:Addr} {i:Int} {k:Nat} {old:Value} {xs:Array Value} {Q:Option Value->Shared->Prop} {E:Value->Shared->Prop} (hh:A.handled=none) (ne:t≠it) (he:IsEnum s.heap e it i old) (st:OnTup it t k xs s.heap) (hk:xs.size<=k)
  (hQ:∀g,Heap.ExtBut it s.heap g->Q none {s with heap:=g}):wpAny (model P w) A (pyNext (.ref e)) Q E s:=by
 have ty:s.TypeIs (.ref e) "enumerate":=⟨_,he,rfl⟩
 refine wpAny_bind (wpAny_attempt (wpAny_callSpecial?_slot (name:=Str.ofString "__next__") ty F.slot_enumerate_next (wpAny_call_entry F.slot_enumerate_next ty F.entry_enumerate_next ?_ (F.args_enumerate_next_1 _))))
 refine (show wpAny _ _ (field (.ref e) 2 >>= _) _ _ _ from wpAny_bind (wpAny_field he rfl (x:= .ref it) rfl (wpAny_bind ?_)))
 refine jQ3 (A:=A.in1) hh ne s _ _ st (fun x _ e=>by rw[Array.getElem?_eq_none hk] at e;cases e) fun g x o _ b hx hc=> ?_
 exact wpAny_bind (wpAny_isInstance (T:="StopIteration") (b:=true) ⟨o,hx,hc⟩ isSubtype_stop (wpAny_pure (hQ g b)))
noncomputable def Itn (K:PySem.W.Frag) (a:Addr):It:=
 ⟨fun i H=>∃xs x,SqT K H a xs/\xs[i]? =some x,fun i H x H'=>∃p y,H p=none/\x= .ref p/\(∀xs,SqT K H a xs->xs[i]? =some y)/\H'=upd H p (.tup [.int i,y]),fun i H=>∃xs,SqT K H a xs/\xs.length<=i⟩
theorem kUv {h:Heap} {a e it:Addr} {i:Int} {old:Value} {k:Nat} {xs:Array Value} (he:IsEnum h e it i old) (hi:h.IsTupleIter it a k) (ht:h.IsTuple a xs):a≠it/\e∉[it,a]:=by
 obtain⟨o,ho,hc,_⟩:=hi
 obtain⟨q,hq,hqc,_⟩:=ht
 refine⟨fun z=> ?_,fun m=> ?_⟩
 ·subst z;rw[ho] at hq;cases hq;rw[hc] at hqc;simp at hqc
 ·simp only[List.mem_cons,List.not_mem_nil,or_false] at m
  rcases m with rfl | rfl
  ·rw[he] at ho;cases ho;simp at hc
  ·rw[he] at hq;cases hq;simp at hqc
theorem kU7 {P:Program} {w:World} {K:PySem.W.Frag} {elts:List Expr} {k:Nat} {pos:Pos} (a e it:Addr) (hei:e≠it):
  Turn P w K (.Tuple elts k pos) (Itn K a) [e,it] e (fun i h=>(∃old,IsEnum h e it i old)/\h.IsTupleIter it a i) where
 mem:=List.mem_cons_self ..
 obj:=fun i h ⟨⟨old,h1⟩,h2⟩ b hb=>by
  simp only[List.not_mem_nil,List.mem_cons,or_false] at hb
  rcases hb with rfl | rfl
  ·exact⟨_,h1,fun v z=>nomatch (show Data.fields _=Data.cell v from z)⟩
  ·obtain⟨o,e2,c,d⟩:=h2
   exact⟨o,e2,fun v z=>by rw[d] at z;cases z⟩
 keep:=fun i h h' ⟨⟨old,h1⟩,h2⟩ kp=>⟨⟨old,kp e (by simp) _ h1⟩,h2.at fun o q=>kp it (by simp) o q⟩
 item:=by
  rintro X hP hw hK hc i pins s σ H E I hf ⟨⟨old,he⟩,hit⟩ ⟨xs,x,hq,hx⟩
  subst hP hw hK
  obtain⟨its,rv,p,hz⟩:=I.tuple hq
  obtain⟨u,hu,ru⟩:=rv.get hx
  have p':s.heap.IsTuple a its.toArray:=p
  obtain⟨nei,hef⟩:=kUv he hit p'
  have hlt:i<its.toArray.size:=by simpa using (List.getElem?_eq_some_iff.mp hu).1
  refine wpAny_pyNext_enum_itemD (kY3 (A:=X.A.in1) (I.ok.hd hc) it a nei its.toArray) he ⟨hit,p'⟩ hlt hei hef fun x' h1 tk hx' ho hit1 hT hsz hk=> ?_
  obtain rfl:u=x':=by simpa[hu] using hx'
  refine⟨_,rfl,wpAny_letOwnedTupleGo_enum ho fun h2 he2 hs2=> ?_⟩
  have hel:e<s.heap.objs.size:=Heap.lt_size he
  have hp2:∀b o,b∉[e,it]->s.heap.get? b=some o->h2.get? b=some o:=fun b o hb q=>by
   simp only[List.mem_cons,List.not_mem_nil,or_false,not_or] at hb
   exact (hs2.2 b hb.1).trans (hk b o hb.1 hb.2 q)
  have hT2:h2.get? s.heap.objs.size=some {cls:= .type "tuple",data:= .seq #[.int i tk,u]}:=(hs2.2 _ (Nat.ne_of_gt hel)).trans hT
  have I2:=jVf (t':=tk+1) (h':=h2) (p:=s.heap.objs.size) (vs:=[.int i,x]) (us:=[.int i tk,u]) I hp2 hf (Nat.le_refl _) ⟨_,hT2,rfl,_,rfl,rfl⟩ (.cons ⟨_,rfl⟩ (.cons ru .nil)) (by show 2<=sizeLine;decide)
  refine⟨.ref s.heap.objs.size,_,I2,rfl,⟨_,x,I.hok.fresh (Nat.le_refl _),rfl,fun ys hy=>by rw[I.tuple_inj hy hq];exact hx,rfl⟩,⟨⟨u,by simpa using he2⟩,hit1.1.at fun o q=>(hs2.2 it hei.symm).trans q⟩,fun b hb=> ?_⟩
  have hbs:∃o,s.heap.get? b=some o:=by
   have hb':=hb
   simp only[List.not_mem_nil,List.mem_cons,or_false] at hb'
   rcases hb' with rfl | rfl
   ·exact⟨_,he⟩
   ·obtain⟨o,q,_⟩:=hit;exact⟨o,q⟩
  obtain⟨o,q⟩:=hbs
  rw[jJu (Nat.ne_of_lt (Heap.lt_size q))]
  exact (hf b hb).1
 done:=by
  rintro X hP hw hK hc i pins s σ H E I hf ⟨⟨old,he⟩,hit⟩ ⟨xs,hq,hx⟩
  subst hP hw hK
  obtain⟨its,rv,p,hz⟩:=I.tuple hq
  have p':s.heap.IsTuple a its.toArray:=p
  obtain⟨nei,hef⟩:=kUv he hit p'
  have hl:=rv.length
  refine jQ2 (I.ok.hd hc) nei he ⟨hit,p'⟩ (by simp;omega) fun h1 hx1=>⟨rfl,jZv (t':=s.toks) I (fun b o hb q=>hx1 b o (fun z=>hb (by simp[z])) q) hf⟩
 self:=fun _ _ _ _ _ ⟨⟨old,he⟩,_⟩ h=>wpAny_pyIter_enum he h
def iEnT (ta:TA3):TI3:=fun τ G R=>ta τ G fun vs G1=>∃xs,vs=[.tup xs]/\R (numT xs) (fun _=>True) G1
theorem i_enT {X:Cx} {elts:List Expr} {k:Nat} {tpos pos p:Pos} {a:Expr} {ta:TA3} (hg:Gl X "enumerate") (hm:X.mg "enumerate"=none) (hv:bootBuiltins "enumerate"=some (.type "enumerate")) (ha:PA3 X [a] ta) (hs:starEach [a] X.env=[(false,eval a X.env)]:=by rfl):
  PI3 X (.Tuple elts k tpos) (.Call (.Name "enumerate" p) [a] [] pos) (iEnT ta):=by
 intro pins s τ G H R I h
 obtain⟨σ0,I0,_,_⟩:=id I
 refine Call_ (jXh I0 hg hm hv (PyProof.Rows.callWith_type1 (thn (ha pos pins s τ G H _ I h) fun us s1 w_=>w_.el fun xs' G1 H1 e1 i_ r_ q1=>i_.el fun σ I1 hs1 hg1=>r_.el fun as ras rvs=> ?_) hs rfl))
 obtain⟨xs,e,q⟩:=q1
 subst e
 obtain⟨v,rfl,rv⟩:=jUm ras
 obtain⟨u,rfl,ru⟩:=rvs.one
 obtain⟨pa,vs,rfl,hq,r⟩:=(show ∃p vs,v= .ref p/\H1 p=some (.tup vs)/\Reps X.K H1 xs vs from rv)
 cases ru
 obtain⟨its,rvv,pl,hz⟩:=I1.tuple (.of hq)
 refine kYy (show s1.heap.IsTuple pa its.toArray from pl) fun h1 n hn he hit hk=> ?_
 subst hn
 have I2:Inv X pins σ H1 {s1 with heap:=h1}:=I1.kept (t':=s1.toks) hk
 refine wpAny_pyIter_enum (Q:=PIE3 X pins τ H (.Tuple elts k tpos) R) he ?_
 have fr:∀b∈[s1.heap.objs.size+1,s1.heap.objs.size],FpOk X pins H1 b:=fun b hb=>by
  simp only[List.not_mem_nil,List.mem_cons,or_false] at hb
  have hle:s1.heap.objs.size<=b:=by omega
  exact I1.fpOk hle (I1.hok.fresh hle)
 refine⟨s1.heap.objs.size+1,[s1.heap.objs.size+1,s1.heap.objs.size],_,_,numT xs,fun _=>True,G1,H1,rfl,e1,⟨σ,I2,hs1,hg1⟩,kU7 pa _ _ (Nat.succ_ne_self _),⟨⟨.none,he⟩,hit.1⟩,fr,?_,q⟩
 intro i H2 G2 e2 g2 _
 obtain⟨pb,ws,eb,h1',h2⟩:=(show ∃p vs,V.ref pa= .ref p/\H2 p=some (.tup vs)/\Reps X.K H2 xs vs from Rep.mono e2 _ rv)
 cases eb
 have hlen:=h2.length
 refine⟨fun hi=> ?_,fun hi=>⟨ws,.of h1',by rw[jJ1] at hi;omega⟩,fun hi y H' ⟨pp,z,hn,ey,hy,eH⟩=> ?_⟩
 ·rw[jJ1] at hi
  exact⟨ws,ws[i]'(by omega),.of h1',by simp[hlen▸hi]⟩
 ·subst ey;subst eH
  obtain⟨t,ht,rt⟩:=h2.get' (hy ws (.of h1'))
  exact⟨.upd (.none hn),g2.tupNew hn,_,jVq ht,Rep.tupNew ⟨_,_,rfl,rfl,_,_,rfl,rt,rfl⟩ hn⟩
section
variable {X:Cx}
noncomputable def kV5 (tk tv:TE3):TE3:=fun τ G Q=>∀p,G p=none->tk τ (gup G p (.dck [])) fun x G1=>tv τ G1 fun y G2=>∃k,jVt x=some k/\G2 p=some (.dck [])/\Q (.ref p) (gup G2 p (.dck [(k,y)]))
theorem qUl {pos:Pos} {k v:Expr} {tk tv:TE3} (hk:PE3 X k tk) (hv:PE3 X v tv):PE3 X (.Dict [some k] [v] pos) (kV5 tk tv):=by
 rintro pins s τ G H Q ⟨σ,I,hs,hg⟩ h
 have hn:=I.hok.fresh (Nat.le_refl s.heap.objs.size)
 have I1:=I.laid (a:=s.heap.objs.size) (o:= .dK []) (h':=s.heap.push {cls:= .type "dict",data:= .dict #[]}) (t':=s.toks) (fun _ _ q=>Heap.get?_push_of_some _ q) (Nat.le_refl _) (kUy s.heap I.big)
 have I3:Inv3 X pins τ (gup G s.heap.objs.size (.dck [])) (upd H s.heap.objs.size (.dK [])) {s with heap:=s.heap.push {cls:= .type "dict",data:= .dict #[]},toks:=s.toks}:=
  ⟨σ,I1,hs.mono (.upd (.none hn)),hg.upd (.none hn) (go:= .dck []) ⟨[],jJ3,.nil⟩⟩
 refine wpAny_Dict_walk (knd:=jJw X.prog X.w) rfl rfl (by simp) (by simp) (pairTrees_cons_walk (thn (hk pins _ τ _ _ _ I3 (h _ (hg.fresh hn))) fun u s1 w_=>w_.el fun x G1 H1 e1 J1 ru q1=>thn (hv pins s1 τ G1 H1 _ J1 q1) fun u2 s2 w_=>w_.el fun y G2 H2 e2 i_ ru2 ⟨key,hkey,hd,q2⟩=>i_.el fun σ2 J2 hs2 hg2=>pairTrees_nil_walk ?_))
 obtain⟨ws,hH2,pk⟩:=(show ∃ws,H2 s.heap.objs.size=some (.dK ws)/\PKV X.K H2 [] ws from hg2 _ _ hd)
 cases pk
 obtain⟨a,ra,rva⟩:=ru.mono e2
 obtain⟨c,rc,rvc⟩:=ru2
 obtain rfl:=jVs hkey ra
 obtain⟨rs,cr,rk⟩:=jZp (P:=X.prog) (w:=X.w) (kvs:=[(key,c)]) (ws:=[(u,u2)]) (.cons ⟨rva,rvc⟩ .nil)
 obtain⟨z,hdd,vs0,r0,dd⟩:=dk_of J2.hok hH2
 cases r0
 refine⟨rs,cr,dd,fun h' dd' hsb=> ?_⟩
 have he:∃q,h'.get? s.heap.objs.size=some q:=let ⟨q,_,_,hq,_⟩:=dd';⟨q,hq⟩
 have JJ:=kJn (t':=s2.toks+[(u,u2)].length) J2 (by rw[hH2];exact True.intro) hsb he (qK1 (kvs:=[(key,c)]) (by rw[sizeLine_eq];exact Nat.succ_le_of_lt (Nat.succ_pos _)) hdd (rk.merge .nil) dd')
 have ext:Ext H2 (upd H2 s.heap.objs.size (.dK [(key,c)])):= .upd (.dK hH2)
 exact⟨.ref s.heap.objs.size,_,_,(((Ext.upd (.none hn)).trans e1).trans e2).trans ext,⟨σ2,JJ,hs2.mono ext,hg2.upd (.dK hH2) (go:= .dck [(key,y)]) ⟨_,jJ3,PKV.put (kvs:=[]) .nil key (Rep.mono ext _ rc)⟩⟩,⟨.ref _,rfl,rfl⟩,q2⟩
end
section
variable {X:Cx}
end
end L3
namespace L3
open PySem PySem.Spec PyProof.Rows L2 MeetsSeq
section
variable {X:Cx}
end
end L3
namespace L3
open PySem PySem.Spec PyProof.Rows L2
section
variable {X:Cx}
end
section
variable {X:Cx}
end
section
variable {P:Program} {w:World} {A:Around} {E:Value->Shared->Prop} {s:Shared} {d:Addr}
theorem jXg {o:Obj} {es:Array DictEntry} {ep:Nat} {Q:Value->Shared->Prop} (hd:(d == sysModules)=false) (ho:s.heap.get? d=some o) (hc:o.ExactDict) (hx:o.data= .dict es ep) (hz:es.size<=sizeLine)
  (h:Q (.int es.size (s.toks+1)) {s with toks:=s.toks+1+1}):wpAny (model P w) A (call (.builtin "len") [.ref d]) Q E s:=by
 have hsl:=sizeLine_eq
 have ty:s.TypeIs (.ref d) "dict":=⟨o,ho,hc.1⟩
 refine Calls.call_function_entry kind_len plain_len entry_len (args_len1 _) ?_;unfold Builtin.«len»; refine wpAny_bind (m:=oneArg "len" _) (wpAny_pure ?_)
 have M:MeetsIn P w (Builtin.«dict.__len__» ⟨[.ref d],[]⟩) (fun _ R z=>(∃o es ep,z.heap.get? d=some o/\o.data= .dict es ep/\R (.ok (.ret (.int es.size z.toks))) {z with toks:=z.toks+1})):=
  .of_wp fun A R z ⟨o,es,ep,ho,hx,h⟩=>by
   refine (show wpAny _ _ (dictSize d >>= _) _ _ z from ?_)
   unfold dictSize;refine wpAny_bind (wpAny_bind (wpAny_dictEntries ho hx (wpAny_pure ?_)))
   refine (show wpAny _ _ (Builtin.Dict.pendingCount d >>= _) _ _ z from wpAny_bind (wpAny_pendingCount_other hd (wpAny_ret_mkInt ?_)))
   rw[Nat.add_zero];exact h
 refine wpAny_bind (m:=callSpecial? (.ref d) (Str.ofString "__len__")) (wpAny_callSpecial?_slot (name:=Str.ofString "__len__") ty F.slot_dict_len (call_meetsIn F.slot_dict_len ty F.entry_dict_len (F.args_dict_len_1 _) M ⟨o,es,ep,ho,hx,?_⟩))
 refine (show wpAny _ _ _ _ _ {s with toks:=s.toks+1} from wpAny_bind (wpAny_holding (wpAny_pure (wpAny_bind (wpAny_letGo ?_)))))
 refine (show wpAny _ _ (if ((es.size:Nat):Int)<0 then _ else _) _ _ _ from ?_);rw[if_neg (by omega)]
 refine (show wpAny _ _ (if ((es.size:Nat):Int)>=2^63 then _ else _) _ _ _ from ?_);rw[if_neg (by omega)]
 exact (wpAny_bind (wpAny_mkInt (wpAny_pure ⟨_,rfl,h⟩)))
end
section
variable {X:Cx}
noncomputable def lenG (G:Gp):T->Option Nat
 | .ref p=>match G p with
  | some (.lst xs)=>some xs.length
  | some (.dct kvs)=>some kvs.length
  | some (.dck kvs)=>some kvs.length
  | some (.fdc _)=>none
  | some (.ins _ _)=>none
  | none=>none
 | .tup xs=>some xs.length
 | .scr xs=>some xs.length
 | _=>none
def kXn:List T->Gp->VK3->Prop:=fun xs G Q=>∃x n,xs=[x]/\lenG G x=some n/\Q (.int (n:Nat)) G
theorem kZf:Call3 X (.builtin "len") kXn:=by
 rintro pins s τ G H xs us Q I rs ⟨x,n,ex,hx,q⟩
 by_cases hd:∃p,x= .ref p/\((∃kvs,G p=some (.dct kvs))\/∃kvs,G p=some (.dck kvs))
 ·subst ex
  obtain⟨p,rfl,hk⟩:=hd
  obtain⟨σ,I,hs,hg⟩:=I
  obtain⟨as,ras,rvs⟩:=rs
  obtain⟨v,rfl,rv⟩:=jUm ras
  obtain⟨u,rfl,ru⟩:=rvs.one
  cases (show v= .ref p from rv);cases ru
  rcases hk with ⟨kvs,hG⟩ | ⟨kvs,hG⟩
  ·simp only[lenG,hG] at hx;cases hx
   obtain⟨ws,h1,h2⟩:=hg p _ hG
   obtain⟨z,y,xs,r,o,es,ep,e1,e2,e3,e4,e5⟩:=(show ObjOk X.prog X.w H s.heap p (.dT ws) from I.hok p _ h1)
   have l1:es.size=kvs.length:=by
    have a1:=congrArg List.length e4
    have a2:=Paired.length r
    have a3:=h2.length
    simp at a1;omega
   refine jXg y e1 e2 e3 (by have:=h2.length;omega) ?_
   rw[l1]
   exact⟨.int (kvs.length:Nat),G,H,.refl H,⟨σ,I.tok _,hs,hg⟩,⟨.int _,rfl,_,rfl⟩,q⟩
  ·simp only[lenG,hG] at hx;cases hx
   obtain⟨ws,h1,h2⟩:=hg p _ hG
   obtain⟨z,y,vs,rel,o,es,ep,e1,e2,e3,e4,e5,e6⟩:=(show ObjOk X.prog X.w H s.heap p (.dK ws) from I.hok p _ h1)
   have l1:es.size=kvs.length:=by
    have a1:=e5.length
    have a2:=rel.length
    have a3:=h2.length
    simp at a1;omega
   refine jXg y e1 e2 e3 (by have:=h2.length;omega) ?_
   rw[l1]
   exact⟨.int (kvs.length:Nat),G,H,.refl H,⟨σ,I.tok _,hs,hg⟩,⟨.int _,rfl,_,rfl⟩,q⟩
 ·refine jYx pins s τ G H xs us Q I rs ?_
  cases x with
  | ref p=>
   cases hG:G p with
   | none=>simp only[lenG,hG] at hx;cases hx
   | some g=>
    cases g with
    | lst ys=>simp only[lenG,hG] at hx;cases hx;exact⟨_,ys,ex,by simp only[seqT,hG,asL],q⟩
    | dct kvs=>exact absurd ⟨p,rfl,.inl ⟨kvs,hG⟩⟩ hd
    | fdc kvs=>simp only[lenG,hG] at hx;cases hx
    | ins _ _=>simp only[lenG,hG] at hx;cases hx
    | dck kvs=>exact absurd ⟨p,rfl,.inr ⟨kvs,hG⟩⟩ hd
  | tup ys=>cases hx;exact⟨_,ys,ex,rfl,q⟩
  | scr ys=>cases hx;exact⟨_,ys,ex,rfl,q⟩
  | non=>cases hx
  | bl _=>cases hx
  | int _=>cases hx
  | str _=>cases hx
  | ty _=>cases hx
end
noncomputable def Itl (K:PySem.W.Frag) (a1 a2:Addr):It:=
 ⟨fun i H=>∃xs ys x y,SqL K H a1 xs/\SqL K H a2 ys/\xs[i]? =some x/\ys[i]? =some y,
  fun i H v H'=>∃p x y,H p=none/\v= .ref p/\(∀xs,SqL K H a1 xs->xs[i]? =some x)/\(∀ys,SqL K H a2 ys->ys[i]? =some y)/\H'=upd H p (.tup [x,y]),
  fun i H=>∃xs ys,SqL K H a1 xs/\SqL K H a2 ys/\(xs.length<=i\/ys.length<=i)⟩
theorem kV1 {P:Program} {w:World} {K:PySem.W.Frag} {elts:List Expr} {k:Nat} {pos:Pos} (z TI TO i1 i2 a1 a2:Addr) (D:ZipApart z TI TO i1 i2 a1 a2):
  Turn P w K (.Tuple elts k pos) (Itl K a1 a2) [z,TI,TO,i1,i2] z (fun i h=>IsZip h z TI TO .none/\IsPair h TI (.ref i1) (.ref i2)/\(∃a b,IsPair h TO a b)/\h.IsListIter i1 a1 i/\h.IsListIter i2 a2 i) where
 mem:=by simp
 obj:=fun i h ⟨hz,hTI,⟨a,b,hTO⟩,h1,h2⟩ c hc=>by
  simp only[List.mem_cons,List.not_mem_nil,or_false] at hc
  rcases hc with rfl | rfl | rfl | rfl | rfl
  ·exact⟨_,hz,fun v z=>nomatch (show Data.fields _=Data.cell v from z)⟩
  ·exact⟨_,hTI,fun v z=>nomatch (show Data.seq _ _=Data.cell v from z)⟩
  ·exact⟨_,hTO,fun v z=>nomatch (show Data.seq _ _=Data.cell v from z)⟩
  ·obtain⟨o,e,c,d⟩:=h1;exact⟨o,e,fun v z=>by rw[d] at z;cases z⟩
  ·obtain⟨o,e,c,d⟩:=h2;exact⟨o,e,fun v z=>by rw[d] at z;cases z⟩
 keep:=fun i h h' ⟨hz,hTI,⟨a,b,hTO⟩,h1,h2⟩ kp=>⟨kp z (by simp) _ hz,kp TI (by simp) _ hTI,⟨a,b,kp TO (by simp) _ hTO⟩,h1.at fun o q=>kp i1 (by simp) o q,h2.at fun o q=>kp i2 (by simp) o q⟩
 item:=by
  rintro X hP hw hK hc i pins s σ H E I hf ⟨hz,hTI,⟨a,b,hTO⟩,h1,h2⟩ hg
  subst hP hw hK
  obtain⟨xs,ys,x,y,hq1,hq2,hx,hy⟩:=hg
  obtain⟨its1,rv1,p1,hz1⟩:=I.list hq1
  obtain⟨its2,rv2,p2,hz2⟩:=I.list hq2
  obtain⟨u1,hu1,ru1⟩:=rv1.get hx
  obtain⟨u2,hu2,ru2⟩:=rv2.get hy
  refine wpAny_pyNext_zip_item D hz hTI hTO h1 h2 p1.isList p2.isList (x:=u1) (y:=u2) (by simpa using hu1) (by simpa using hu2) fun g1 ho gTO g3 g4 hT hsz hk=> ?_
  refine⟨_,rfl,wpAny_letOwnedTupleGo_zip ho fun g2 gz hs2=> ?_⟩
  have hzl:z<s.heap.objs.size:=Heap.lt_size hz
  have hp2:∀b o,b∉[z,TI,TO,i1,i2]->s.heap.get? b=some o->g2.get? b=some o:=fun b o hb q=>by
   simp only[List.mem_cons,List.not_mem_nil,or_false,not_or] at hb
   exact (hs2.2 b hb.1).trans (hk b o hb.1 hb.2.2.1 hb.2.2.2.1 hb.2.2.2.2 q)
  have hT2:g2.get? s.heap.objs.size=some {cls:= .type "tuple",data:= .seq #[u1,u2]}:=(hs2.2 _ (Nat.ne_of_gt hzl)).trans hT
  have I2:=jVf (t':=s.toks) (h':=g2) (p:=s.heap.objs.size) (vs:=[x,y]) (us:=[u1,u2]) I hp2 hf (Nat.le_refl _) ⟨_,hT2,rfl,_,rfl,rfl⟩ (.cons ru1 (.cons ru2 .nil)) (by show 2<=sizeLine;decide)
  refine⟨.ref s.heap.objs.size,_,I2,rfl,⟨_,x,y,I.hok.fresh (Nat.le_refl _),rfl,fun zs hz=>by rw[I.list_inj hz hq1];exact hx,fun zs hz=>by rw[I.list_inj hz hq2];exact hy,rfl⟩,
   ⟨gz,(hs2.2 _ D.TIz).trans (hk _ _ D.TIz D.TITO D.TIi1 D.TIi2 hTI),⟨_,_,(hs2.2 _ D.TOz).trans gTO⟩,g3.at fun o q=>(hs2.2 _ D.i1z).trans q,g4.at fun o q=>(hs2.2 _ D.i2z).trans q⟩,fun b hb=> ?_⟩
  have hbs:∃o,s.heap.get? b=some o:=by
   have hbq:=hb
   simp only[List.mem_cons,List.not_mem_nil,or_false] at hbq
   rcases hbq with rfl | rfl | rfl | rfl | rfl
   ·exact⟨_,hz⟩
   ·exact⟨_,hTI⟩
   ·exact⟨_,hTO⟩
   ·obtain⟨o,q,_⟩:=h1;exact⟨o,q⟩
   ·obtain⟨o,q,_⟩:=h2;exact⟨o,q⟩
  obtain⟨o,q⟩:=hbs
  rw[jJu (Nat.ne_of_lt (Heap.lt_size q))]
  exact (hf b hb).1
 done:=by
  rintro X hP hw hK hc i pins s σ H E I hf ⟨hz,hTI,⟨a,b,hTO⟩,h1,h2⟩ hg
  subst hP hw hK
  obtain⟨xs,ys,hq1,hq2,hx⟩:=hg
  obtain⟨its1,rv1,p1,hz1⟩:=I.list hq1
  obtain⟨its2,rv2,p2,hz2⟩:=I.list hq2
  have hl1:=rv1.length
  have hl2:=rv2.length
  refine wpAny_pyNext_zip_end (I.ok.hd hc) D hz hTI hTO h1 h2 p1.isList p2.isList ?_ fun g1 hk=>⟨rfl,jZv (t':=s.toks) (fp:=[z,TI,TO,i1,i2]) I (fun b o hb q=> ?_) hf⟩
  ·rcases hx with hx | hx
   ·exact .inl (by simp;omega)
   ·exact .inr (by simp;omega)
  ·simp only[List.mem_cons,List.not_mem_nil,or_false,not_or] at hb
   exact hk b o hb.1 hb.2.2.1 hb.2.2.2.1 hb.2.2.2.2 q
 self:=fun _ _ _ _ _ ⟨hz,_⟩ h=>wpAny_pyIter_zip hz h
section
variable {X:Cx}
def qQi:List T->Gp->VK3->Prop:=fun xs G Q=>∃i j,xs=[.int i,.int j]/\Q (.int (if j<i then j else i)) G
theorem c_min2 (hc:X.calm=true):Call3 X (.builtin "min") qQi:=
 Call3.of (kZc hc) fun H G xs as Q hg ra ⟨i,j,e,q⟩=>by
  subst e
  obtain⟨v,w,rfl,rv,rw'⟩:=kK4 ra
  cases (show v= .int i from rv);cases (show w= .int j from rw')
  exact⟨i,j,rfl,.int _,G,.refl H,hg,rfl,q⟩
theorem jUh:∀ {is:List Int} {us:List Value},Vals (is.map V.int) us->∃ps:List (Int×Tok),us=ps.map (fun p=> .int p.1 p.2)/\ps.map (·.1)=is
 | [],_,.nil=>⟨[],rfl,rfl⟩
 | i::is,_,.cons ⟨t,e⟩ r=>by
  obtain⟨ps,e1,e2⟩:=jUh r
  subst e1;subst e2;subst e
  exact⟨(i,t)::ps,rfl,rfl⟩
end
section
variable {X:Cx}
end
section
variable {X:Cx}
end
section
variable {X:Cx} {pos:Pos}
end
theorem szle {n:Nat} (h:Nat.ble n 16777216=true):n<=sizeLine:=by rw[PySem.sizeLine_eq];exact Nat.le_of_ble_eq_true h
end L3
namespace L3
theorem xe1 {A0:Type} {σ:Type} {f:A0->σ} {p:A0->Prop} {τ:σ} {C:σ->Prop} (h:∃a0,τ=f a0/\p a0) (k:∀a0,p a0->C (f a0)):C τ:=by
 obtain⟨a0,e,h⟩:=h;rw[e];exact k _ h
theorem xi1 {A0:Type} {σ:Type} {f:A0->σ} {p:A0->Prop} {τ:σ} (a0:A0) (e:τ=f a0) (h:p a0):∃a0,τ=f a0/\p a0:=⟨a0,e,h⟩
theorem xe2 {A0 A1:Type} {σ:Type} {f:A0->A1->σ} {p:A0->A1->Prop} {τ:σ} {C:σ->Prop} (h:∃a0 a1,τ=f a0 a1/\p a0 a1) (k:∀a0 a1,p a0 a1->C (f a0 a1)):C τ:=by
 obtain⟨a0,a1,e,h⟩:=h;rw[e];exact k _ _ h
theorem xi2 {A0 A1:Type} {σ:Type} {f:A0->A1->σ} {p:A0->A1->Prop} {τ:σ} (a0:A0) (a1:A1) (e:τ=f a0 a1) (h:p a0 a1):∃a0 a1,τ=f a0 a1/\p a0 a1:=⟨a0,a1,e,h⟩
theorem xe3 {A0 A1 A2:Type} {σ:Type} {f:A0->A1->A2->σ} {p:A0->A1->A2->Prop} {τ:σ} {C:σ->Prop} (h:∃a0 a1 a2,τ=f a0 a1 a2/\p a0 a1 a2) (k:∀a0 a1 a2,p a0 a1 a2->C (f a0 a1 a2)):C τ:=by
 obtain⟨a0,a1,a2,e,h⟩:=h;rw[e];exact k _ _ _ h
theorem xi3 {A0 A1 A2:Type} {σ:Type} {f:A0->A1->A2->σ} {p:A0->A1->A2->Prop} {τ:σ} (a0:A0) (a1:A1) (a2:A2) (e:τ=f a0 a1 a2) (h:p a0 a1 a2):∃a0 a1 a2,τ=f a0 a1 a2/\p a0 a1 a2:=⟨a0,a1,a2,e,h⟩
theorem xe4 {A0 A1 A2 A3:Type} {σ:Type} {f:A0->A1->A2->A3->σ} {p:A0->A1->A2->A3->Prop} {τ:σ} {C:σ->Prop} (h:∃a0 a1 a2 a3,τ=f a0 a1 a2 a3/\p a0 a1 a2 a3) (k:∀a0 a1 a2 a3,p a0 a1 a2 a3->C (f a0 a1 a2 a3)):C τ:=by
 obtain⟨a0,a1,a2,a3,e,h⟩:=h;rw[e];exact k _ _ _ _ h
theorem xe5 {A0 A1 A2 A3 A4:Type} {σ:Type} {f:A0->A1->A2->A3->A4->σ} {p:A0->A1->A2->A3->A4->Prop} {τ:σ} {C:σ->Prop} (h:∃a0 a1 a2 a3 a4,τ=f a0 a1 a2 a3 a4/\p a0 a1 a2 a3 a4) (k:∀a0 a1 a2 a3 a4,p a0 a1 a2 a3 a4->C (f a0 a1 a2 a3 a4)):C τ:=by
 obtain⟨a0,a1,a2,a3,a4,e,h⟩:=h;rw[e];exact k _ _ _ _ _ h
theorem xe6 {A0 A1 A2 A3 A4 A5:Type} {σ:Type} {f:A0->A1->A2->A3->A4->A5->σ} {p:A0->A1->A2->A3->A4->A5->Prop} {τ:σ} {C:σ->Prop} (h:∃a0 a1 a2 a3 a4 a5,τ=f a0 a1 a2 a3 a4 a5/\p a0 a1 a2 a3 a4 a5) (k:∀a0 a1 a2 a3 a4 a5,p a0 a1 a2 a3 a4 a5->C (f a0 a1 a2 a3 a4 a5)):C τ:=by
 obtain⟨a0,a1,a2,a3,a4,a5,e,h⟩:=h;rw[e];exact k _ _ _ _ _ _ h
theorem xe7 {A0 A1 A2 A3 A4 A5 A6:Type} {σ:Type} {f:A0->A1->A2->A3->A4->A5->A6->σ} {p:A0->A1->A2->A3->A4->A5->A6->Prop} {τ:σ} {C:σ->Prop} (h:∃a0 a1 a2 a3 a4 a5 a6,τ=f a0 a1 a2 a3 a4 a5 a6/\p a0 a1 a2 a3 a4 a5 a6) (k:∀a0 a1 a2 a3 a4 a5 a6,p a0 a1 a2 a3 a4 a5 a6->C (f a0 a1 a2 a3 a4 a5 a6)):C τ:=by
 obtain⟨a0,a1,a2,a3,a4,a5,a6,e,h⟩:=h;rw[e];exact k _ _ _ _ _ _ _ h
theorem xe8 {A0 A1 A2 A3 A4 A5 A6 A7:Type} {σ:Type} {f:A0->A1->A2->A3->A4->A5->A6->A7->σ} {p:A0->A1->A2->A3->A4->A5->A6->A7->Prop} {τ:σ} {C:σ->Prop} (h:∃a0 a1 a2 a3 a4 a5 a6 a7,τ=f a0 a1 a2 a3 a4 a5 a6 a7/\p a0 a1 a2 a3 a4 a5 a6 a7) (k:∀a0 a1 a2 a3 a4 a5 a6 a7,p a0 a1 a2 a3 a4 a5 a6 a7->C (f a0 a1 a2 a3 a4 a5 a6 a7)):C τ:=by
 obtain⟨a0,a1,a2,a3,a4,a5,a6,a7,e,h⟩:=h;rw[e];exact k _ _ _ _ _ _ _ _ h
theorem ae2 {a0 a1 C:Prop} (h:a0/\a1) (k:a0->a1->C):C:=k h.1 h.2
theorem ae3 {a0 a1 a2 C:Prop} (h:a0/\a1/\a2) (k:a0->a1->a2->C):C:=k h.1 h.2.1 h.2.2
theorem ae4 {a0 a1 a2 a3 C:Prop} (h:a0/\a1/\a2/\a3) (k:a0->a1->a2->a3->C):C:=k h.1 h.2.1 h.2.2.1 h.2.2.2
theorem ae5 {a0 a1 a2 a3 a4 C:Prop} (h:a0/\a1/\a2/\a3/\a4) (k:a0->a1->a2->a3->a4->C):C:=k h.1 h.2.1 h.2.2.1 h.2.2.2.1 h.2.2.2.2
theorem ae6 {a0 a1 a2 a3 a4 a5 C:Prop} (h:a0/\a1/\a2/\a3/\a4/\a5) (k:a0->a1->a2->a3->a4->a5->C):C:=k h.1 h.2.1 h.2.2.1 h.2.2.2.1 h.2.2.2.2.1 h.2.2.2.2.2
theorem ae7 {a0 a1 a2 a3 a4 a5 a6 C:Prop} (h:a0/\a1/\a2/\a3/\a4/\a5/\a6) (k:a0->a1->a2->a3->a4->a5->a6->C):C:=k h.1 h.2.1 h.2.2.1 h.2.2.2.1 h.2.2.2.2.1 h.2.2.2.2.2.1 h.2.2.2.2.2.2
theorem ae8 {a0 a1 a2 a3 a4 a5 a6 a7 C:Prop} (h:a0/\a1/\a2/\a3/\a4/\a5/\a6/\a7) (k:a0->a1->a2->a3->a4->a5->a6->a7->C):C:=k h.1 h.2.1 h.2.2.1 h.2.2.2.1 h.2.2.2.2.1 h.2.2.2.2.2.1 h.2.2.2.2.2.2.1 h.2.2.2.2.2.2.2
theorem ae9 {a0 a1 a2 a3 a4 a5 a6 a7 a8 C:Prop} (h:a0/\a1/\a2/\a3/\a4/\a5/\a6/\a7/\a8) (k:a0->a1->a2->a3->a4->a5->a6->a7->a8->C):C:=k h.1 h.2.1 h.2.2.1 h.2.2.2.1 h.2.2.2.2.1 h.2.2.2.2.2.1 h.2.2.2.2.2.2.1 h.2.2.2.2.2.2.2.1 h.2.2.2.2.2.2.2.2
theorem ae10 {a0 a1 a2 a3 a4 a5 a6 a7 a8 a9 C:Prop} (h:a0/\a1/\a2/\a3/\a4/\a5/\a6/\a7/\a8/\a9) (k:a0->a1->a2->a3->a4->a5->a6->a7->a8->a9->C):C:=k h.1 h.2.1 h.2.2.1 h.2.2.2.1 h.2.2.2.2.1 h.2.2.2.2.2.1 h.2.2.2.2.2.2.1 h.2.2.2.2.2.2.2.1 h.2.2.2.2.2.2.2.2.1 h.2.2.2.2.2.2.2.2.2
end L3
namespace L3
open PySem PySem.Spec PyProof.Rows L2
section
variable {X:Cx}
end
theorem qK5 {X:Cx} {elts:List Expr} {k:Nat} {tpos:Pos} {pins:List (Addr×Obj)} {s1:Shared} {τ:St3} {σ:L2.St} {G1:Gp} {H H1:Hp} {R:List T->(Gp->Prop)->Gp->Prop} {x y:T} {xs ys:List T} {v w:V} {u u':Value} (St:Gp->Prop) (hSt:∀G',St G'->jKw G' x=some xs/\jKw G' y=some ys)
  (e1:Ext H H1) (I1:Inv X pins σ H1 s1) (hs1:SRel X.K H1 σ τ) (hg1:GRel X.K H1 G1) (rv:Rep X.K H1 x v) (rw':Rep X.K H1 y w) (ru:RelV v u) (ru':RelV w u') (hx:jKw G1 x=some xs) (hy:jKw G1 y=some ys) (q:R (zipT xs ys) St G1):
  wpAny (model X.prog X.w) X.A (call (.type "zip") [u,u']) (fun v s1=>wpAny (model X.prog X.w) X.A (pyIter v) (PIE3 X pins τ H (.Tuple elts k tpos) R) X.xe s1) X.xe s1:=by
 obtain⟨pa,vs,rfl,hq1,r1⟩:=jQo hg1 rv hx
 obtain⟨pb,ws,rfl,hq2,r2⟩:=jQo hg1 rw' hy
 cases ru;cases ru'
 obtain⟨its1,rv1,p1,hz1⟩:=I1.list hq1
 obtain⟨its2,rv2,p2,hz2⟩:=I1.list hq2
 have hal:pa<s1.heap.objs.size:=by obtain⟨o,ho,_⟩:=p1.isList;exact Heap.lt_size ho
 have hbl:pb<s1.heap.objs.size:=by obtain⟨o,ho,_⟩:=p2.isList;exact Heap.lt_size ho
 refine call_zip_2 p1.isList p2.isList fun h1 hz hTI hTO hi1 hi2 hsz hk=> ?_
 have I2:Inv X pins σ H1 {s1 with heap:=h1}:=I1.kept (t':=s1.toks) hk
 refine wpAny_pyIter_zip hz ?_
 have fr:∀c∈[s1.heap.objs.size+4,s1.heap.objs.size+2,s1.heap.objs.size+3,s1.heap.objs.size,s1.heap.objs.size+1],FpOk X pins H1 c:=fun c hc=>by
  simp only[List.mem_cons,List.not_mem_nil,or_false] at hc
  have hle:s1.heap.objs.size<=c:=by omega
  exact I1.fpOk hle (I1.hok.fresh hle)
 have D:ZipApart (s1.heap.objs.size+4) (s1.heap.objs.size+2) (s1.heap.objs.size+3) s1.heap.objs.size (s1.heap.objs.size+1) pa pb:=qKh hal hbl
 refine⟨s1.heap.objs.size+4,_,_,_,zipT xs ys,St,G1,H1,rfl,e1,⟨σ,I2,hs1,hg1⟩,kV1 _ _ _ _ _ pa pb D,⟨hz,hTI,⟨_,_,hTO⟩,hi1,hi2⟩,fr,?_,q⟩
 intro i H2 G2 e2 g2 st0
 have st:=hSt G2 st0
 obtain⟨pa',vs',ea,ha',ra'⟩:=jQo g2 (Rep.mono e2 _ rv) st.1
 obtain⟨pb',ws',eb,hbq,rb'⟩:=jQo g2 (Rep.mono e2 _ rw') st.2
 cases ea;cases eb
 have hl1:=ra'.length
 have hl2:=rb'.length
 have hzl:(zipT xs ys).length=min xs.length ys.length:=by simp[zipT]
 refine⟨fun hi=> ?_,fun hi=>⟨vs',ws',ha',hbq,by omega⟩,fun hi y H' ⟨pp,x1,x2,hn,ey,hy1,hy2,eH⟩=> ?_⟩
 ·exact⟨vs',ws',vs'[i]'(by omega),ws'[i]'(by omega),ha',hbq,List.getElem?_eq_getElem _,List.getElem?_eq_getElem _⟩
 ·subst ey;subst eH
  obtain⟨t1,ht1,rt1⟩:=ra'.get' (hy1 vs' ha')
  obtain⟨t2,ht2,rt2⟩:=rb'.get' (hy2 ws' hbq)
  have hzi:(zipT xs ys)[i]? =some (.tup [t1,t2]):=by
   unfold zipT
   rw[List.getElem?_map,show (xs.zip ys)[i]? =some (t1,t2) from List.getElem?_zip_eq_some.mpr ⟨ht1,ht2⟩];rfl
  exact⟨.upd (.none hn),g2.tupNew hn,_,hzi,Rep.tupNew ⟨_,_,rfl,rt1,_,_,rfl,rt2,rfl⟩ hn⟩
theorem qK4 {X:Cx} {elts:List Expr} {k:Nat} {tpos:Pos} {pins:List (Addr×Obj)} {s1:Shared} {τ:St3} {σ:L2.St} {G1:Gp} {H H1:Hp} {R:List T->(Gp->Prop)->Gp->Prop} {xs ys:List T} {v w:V} {u u':Value} (St:Gp->Prop)
  (e1:Ext H H1) (I1:Inv X pins σ H1 s1) (hs1:SRel X.K H1 σ τ) (hg1:GRel X.K H1 G1) (rv:Rep X.K H1 (.tup xs) v) (rw':Rep X.K H1 (.tup ys) w) (ru:RelV v u) (ru':RelV w u') (q:R (zipT xs ys) St G1):
  wpAny (model X.prog X.w) X.A (call (.type "zip") [u,u']) (fun v s1=>wpAny (model X.prog X.w) X.A (pyIter v) (PIE3 X pins τ H (.Tuple elts k tpos) R) X.xe s1) X.xe s1:=by
 obtain⟨pa,vs,rfl,hq1,r1⟩:=(show ∃p vs,v= .ref p/\H1 p=some (.tup vs)/\Reps X.K H1 xs vs from rv)
 obtain⟨pb,ws,rfl,hq2,r2⟩:=(show ∃p vs,w= .ref p/\H1 p=some (.tup vs)/\Reps X.K H1 ys vs from rw')
 cases ru;cases ru'
 obtain⟨its1,rv1,p1,hz1⟩:=I1.tuple (.of hq1)
 obtain⟨its2,rv2,p2,hz2⟩:=I1.tuple (.of hq2)
 have hal:pa<s1.heap.objs.size:=by obtain⟨o,ho,_⟩:=p1;exact Heap.lt_size ho
 have hbl:pb<s1.heap.objs.size:=by obtain⟨o,ho,_⟩:=p2;exact Heap.lt_size ho
 refine kZm (show s1.heap.IsTuple pa its1.toArray from p1) (show s1.heap.IsTuple pb its2.toArray from p2) fun h1 n hn hz hTI hTO hi1 hi2 hk=> ?_
 subst hn
 have I2:Inv X pins σ H1 {s1 with heap:=h1}:=I1.kept (t':=s1.toks) hk
 refine wpAny_pyIter_zip hz ?_
 have fr:∀c∈[s1.heap.objs.size+4,s1.heap.objs.size+2,s1.heap.objs.size+3,s1.heap.objs.size,s1.heap.objs.size+1],FpOk X pins H1 c:=fun c hc=>by
  simp only[List.mem_cons,List.not_mem_nil,or_false] at hc
  have hle:s1.heap.objs.size<=c:=by omega
  exact I1.fpOk hle (I1.hok.fresh hle)
 have D:ZipApart (s1.heap.objs.size+4) (s1.heap.objs.size+2) (s1.heap.objs.size+3) s1.heap.objs.size (s1.heap.objs.size+1) pa pb:=qKh hal hbl
 refine⟨s1.heap.objs.size+4,_,_,_,zipT xs ys,St,G1,H1,rfl,e1,⟨σ,I2,hs1,hg1⟩,kZq _ _ _ _ _ pa pb D,⟨hz,hTI,⟨_,_,hTO⟩,hi1.1,hi2.1⟩,fr,?_,q⟩
 intro i H2 G2 e2 g2 _
 obtain⟨pa',vs',ea,ha',ra'⟩:=(show ∃p vs,V.ref pa= .ref p/\H2 p=some (.tup vs)/\Reps X.K H2 xs vs from Rep.mono e2 _ rv)
 obtain⟨pb',ws',eb,hbq,rb'⟩:=(show ∃p vs,V.ref pb= .ref p/\H2 p=some (.tup vs)/\Reps X.K H2 ys vs from Rep.mono e2 _ rw')
 cases ea;cases eb
 have hl1:=ra'.length
 have hl2:=rb'.length
 have hzl:(zipT xs ys).length=min xs.length ys.length:=by simp[zipT]
 refine⟨fun hi=> ?_,fun hi=>⟨vs',ws',.of ha',.of hbq,by omega⟩,fun hi y H' ⟨pp,x1,x2,hn,ey,hy1,hy2,eH⟩=> ?_⟩
 ·exact⟨vs',ws',vs'[i]'(by omega),ws'[i]'(by omega),.of ha',.of hbq,List.getElem?_eq_getElem _,List.getElem?_eq_getElem _⟩
 ·subst ey;subst eH
  obtain⟨t1,ht1,rt1⟩:=ra'.get' (hy1 vs' (.of ha'))
  obtain⟨t2,ht2,rt2⟩:=rb'.get' (hy2 ws' (.of hbq))
  have hzi:(zipT xs ys)[i]? =some (.tup [t1,t2]):=by
   unfold zipT
   rw[List.getElem?_map,show (xs.zip ys)[i]? =some (t1,t2) from List.getElem?_zip_eq_some.mpr ⟨ht1,ht2⟩];rfl
  exact⟨.upd (.none hn),g2.tupNew hn,_,hzi,Rep.tupNew ⟨_,_,rfl,rt1,_,_,rfl,rt2,rfl⟩ hn⟩
noncomputable def qJy (ta:TA3):TI3:=fun τ G R=>ta τ G fun vs G1=>∃x y xs ys,vs=[x,y]/\((x= .tup xs/\y= .tup ys/\R (zipT xs ys) (fun _=>True) G1)\/(jKw G1 x=some xs/\jKw G1 y=some ys/\R (zipT xs ys) (fun G'=>jKw G' x=some xs/\jKw G' y=some ys) G1))
theorem i_zipB {X:Cx} {elts:List Expr} {k:Nat} {tpos pos p:Pos} {a b:Expr} {ta:TA3} (hg:Gl X "zip") (hm:X.mg "zip"=none) (hv:bootBuiltins "zip"=some (.type "zip")) (ha:PA3 X [a,b] ta) (hs:starEach [a,b] X.env=[(false,eval a X.env),(false,eval b X.env)]:=by rfl) (hs2:starEach [b] X.env=[(false,eval b X.env)]:=by rfl):
  PI3 X (.Tuple elts k tpos) (.Call (.Name "zip" p) [a,b] [] pos) (qJy ta):=by
 intro pins s τ G H R I h
 obtain⟨σ0,I0,hs0,hg0⟩:=id I
 refine Call_ (jXh I0 hg hm hv (PyProof.Rows.callWith_type1 (thn (ha pos pins s τ G H _ I h) fun us s1 w_=>w_.el fun xs' G1 H1 e1 i_ r_ q1=>i_.el fun σ I1 hs1 hg1=>r_.el fun as ras rvs=> ?_) (by rw[hs,hs2]) (by rw[hs2];rfl)))
 obtain⟨x,y,xs,ys,e,hx⟩:=q1
 subst e
 obtain⟨v,w,rfl,rv,rw'⟩:=kK4 ras
 obtain⟨u,u',rfl,ru,ru'⟩:=rvs.two
 rcases hx with ⟨rfl,rfl,q⟩ | ⟨hx,hy,q⟩
 ·exact qK4 _ e1 I1 hs1 hg1 rv rw' ru ru' q
 ·exact qK5 _ (fun G' h=>h) e1 I1 hs1 hg1 rv rw' ru ru' hx hy q
section
variable {X:Cx}
end
section
variable {X:Cx}
end
section
variable {X:Cx}
end
section
variable {X:Cx}
end
section
variable {P:Program} {w:World} {A:Around} {E:Value->Shared->Prop} {s:Shared} {d it:Addr} {o:Obj} {es:Array DictEntry} {ep i:Nat}
theorem kVp {Q:Value->Shared->Prop} (hd:(d == sysModules)=false) (ho:s.heap.get? d=some o) (hc:o.ExactDict) (hx:o.data= .dict es ep)
  (hQ:Q (.ref s.heap.objs.size) {s with heap:=s.heap.push {cls:= .type "dict_keyiterator",data:= .fields #[.ref d,.int 0 0,.int es.size 0,.int ep 0]} }):wpAny (model P w) A (pyIter (.ref d)) Q E s:=by
 have hT:s.TypeIs (.ref d) "dict":=⟨o,ho,hc.1⟩
 refine wpAny_pyIter_slot hT PySem.F.slot_dict_iter (wpAny_call_entry PySem.F.slot_dict_iter hT PySem.F.entry_dict_iter ?_ (PySem.F.args_dict_iter_1 _));unfold Builtin.«dict.__iter__»
 refine wpAny_bind ?_;unfold Builtin.Dict.dictSlotNone;refine wpAny_bind (wpAny_notOrdered_dict hT ?_)
 refine (show wpAny _ _ (pure (Value.ref d)) _ _ s from wpAny_pure ?_);refine (show wpAny _ _ (Builtin.Dict.showsAll d >>= _) _ _ s from ?_)
 unfold Builtin.Dict.showsAll;rw[if_neg (by rw[hd];exact Bool.false_ne_true)];refine wpAny_bind (wpAny_pure (wpAny_bind (wpAny_dictEntries ho hx (wpAny_bind (wpAny_dictEpoch ho hx ?_)))))
 exact wpAny_bind (wpAny_newObj_type (wpAny_pure ⟨_,rfl,"dict_keyiterator",_,⟨_,Heap.get?_push_size _ rfl,rfl⟩,PySem.F.slot_dict_keyiterator_next.lookup,by simpa[rawInt] using hQ⟩))
theorem kVg {e:DictEntry} {Q:Option Value->Shared->Prop} (hit:s.heap.IsKeyIter it d i es.size ep) (ho:s.heap.get? d=some o) (hx:o.data= .dict es ep) (hi:es[i]? =some e)
  (hQ:∀h',h'.IsKeyIter it d (i+1) es.size ep->Heap.SameBut it s.heap h'->Q (some e.key) {s with heap:=h'}):wpAny (model P w) A (pyNext (.ref it)) Q E s:=by
 obtain⟨oi,hoi,hci,hdi⟩:=id hit
 unfold pyNext;refine wpAny_bind (wpAny_attempt (wpAny_callSpecial?_slot (name:=Str.ofString "__next__") hit.typeIs PySem.F.slot_dict_keyiterator_next (wpAny_call_entry PySem.F.slot_dict_keyiterator_next hit.typeIs PySem.F.entry_dict_keyiterator_next ?_ (PySem.F.args_dict_keyiterator_next_1 _))))
 refine wpAny_bind (wpAny_pure (wpAny_bind (wpAny_bind ?_)))
 first | refine wpAny_bind (wpAny_typeNameOfWhole_keyiter hit.typeIs (wpAny_pure (wpAny_bind (wpAny_fieldsOf hoi hdi ?_)))) | refine wpAny_bind (wpAny_typeNameOf_keyiter hit.typeIs (wpAny_pure (wpAny_bind (wpAny_fieldsOf hoi hdi ?_))))
 simp only[show Builtin.Dict_items.ownsTuple "dict_keyiterator"=false by decide,Bool.false_eq_true,if_false]
 refine (show wpAny _ _ (if (Value.ref d == Value.none)=true then _ else _) _ _ s from ?_);rw[if_neg (show ¬ ((Value.ref d == Value.none)=true) from Bool.false_ne_true)]
 refine wpAny_bind (wpAny_pure (wpAny_bind (wpAny_dictEntries ho hx ?_)));rw[if_neg (by simp)];refine wpAny_bind (wpAny_pure (wpAny_bind (wpAny_dictEpoch ho hx ?_)));rw[if_neg (by simp)];refine wpAny_pure ?_
 simp only[show ¬ ((i:Int)<0) from by omega,if_false,Int.toNat_natCast,hi];refine wpAny_bind ?_
 first | refine wpAny_bind (wpAny_typeNameOfWhole_keyiter hit.typeIs (wpAny_pure (wpAny_bind (wpAny_isOneOf_keyiter hit.typeIs ?_)))) | refine wpAny_bind (wpAny_typeNameOf_keyiter hit.typeIs (wpAny_pure (wpAny_bind (wpAny_isOneOf_keyiter hit.typeIs ?_))))
 refine (show wpAny _ _ (setField (.ref it) 1 (rawInt ((i:Int)+1)) >>= _) _ _ s from wpAny_bind (wpAny_setField hoi hdi (by simp) ?_))
 have hit':(s.heap.update it (Obj.mapFields (·.setIfInBounds 1 (rawInt ((i:Int)+1))))).IsKeyIter it d (i+1) es.size ep:=⟨_,Heap.get?_update_self _ hoi (Obj.isFreed_of_fields (Obj.data_mapFields hdi _)),(Obj.cls_mapFields ..).trans hci,by rw[Obj.data_mapFields hdi];simp[rawInt]⟩
 refine wpAny_bind (wpAny_holding (wpAny_bind (wpAny_isOneOf_keyiter (s:={s with heap:=s.heap.update it (Obj.mapFields (·.setIfInBounds 1 (rawInt ((i:Int)+1))))}) hit'.typeIs ?_)))
 exact (show wpAny _ _ (pure e.key) _ _ _ from wpAny_pure (wpAny_pure ⟨_,rfl,wpAny_pure (hQ _ hit' (Heap.SameBut.update ..))⟩))
theorem kYz {Q:Option Value->Shared->Prop} (hh:A.handled=none) (hit:s.heap.IsKeyIter it d i es.size ep) (ho:s.heap.get? d=some o) (hx:o.data= .dict es ep) (hi:es.size<=i)
  (hQ:∀h',Heap.ExtBut it s.heap h'->Q none {s with heap:=h'}):wpAny (model P w) A (pyNext (.ref it)) Q E s:=by
 obtain⟨oi,hoi,hci,hdi⟩:=id hit
 unfold pyNext;refine wpAny_bind (wpAny_attempt (wpAny_callSpecial?_slot (name:=Str.ofString "__next__") hit.typeIs PySem.F.slot_dict_keyiterator_next (wpAny_call_entry PySem.F.slot_dict_keyiterator_next hit.typeIs PySem.F.entry_dict_keyiterator_next ?_ (PySem.F.args_dict_keyiterator_next_1 _))))
 refine wpAny_bind (wpAny_pure (wpAny_bind (wpAny_bind ?_)))
 first | refine wpAny_bind (wpAny_typeNameOfWhole_keyiter hit.typeIs (wpAny_pure (wpAny_bind (wpAny_fieldsOf hoi hdi ?_)))) | refine wpAny_bind (wpAny_typeNameOf_keyiter hit.typeIs (wpAny_pure (wpAny_bind (wpAny_fieldsOf hoi hdi ?_))))
 simp only[show Builtin.Dict_items.ownsTuple "dict_keyiterator"=false by decide,Bool.false_eq_true,if_false]
 refine (show wpAny _ _ (if (Value.ref d == Value.none)=true then _ else _) _ _ s from ?_);rw[if_neg (show ¬ ((Value.ref d == Value.none)=true) from Bool.false_ne_true)]
 refine wpAny_bind (wpAny_pure (wpAny_bind (wpAny_dictEntries ho hx ?_)));rw[if_neg (by simp)];refine wpAny_bind (wpAny_pure (wpAny_bind (wpAny_dictEpoch ho hx ?_)));rw[if_neg (by simp)];refine wpAny_pure ?_
 simp only[show ¬ ((i:Int)<0) from by omega,if_false,Int.toNat_natCast,Array.getElem?_eq_none hi];refine wpAny_bind ?_
 first | refine (wpAny_bind (wpAny_typeNameOfWhole_keyiter hit.typeIs (wpAny_pure ?_))) | refine wpAny_bind (wpAny_typeNameOf_keyiter hit.typeIs (wpAny_pure ?_))
 refine (show wpAny _ _ (setField (.ref it) 0 .none >>= _) _ _ s from wpAny_bind (wpAny_setField hoi hdi (by simp) ?_));refine (show wpAny _ _ (newExc (.type "StopIteration") [] >>= _) _ _ _ from wpAny_bind ?_)
 simp only[newExc,newTuple];refine wpAny_bind (wpAny_newObj_type ?_ (by size_fits));refine wpAny_bind (m:=firstArgMember _ _) (wpAny_of_eq (a:=Value.none) (by first | rfl | (simp only[firstArgMember];rfl)) (wpAny_newObj_type ?_ (by size_fits)))
 simp only[raiseNew];refine wpAny_bind (wpAny_handled ?_);rw[show A.in1.handled=none from hh];refine wpAny_bind (wpAny_pure (wpAny_throw ?_))
 exact wpAny_bind (wpAny_isInstance (T:="StopIteration") (b:=true) ⟨_,Heap.get?_push_size _ rfl,rfl⟩ isSubtype_stop (wpAny_pure (hQ _ (((Heap.SameBut.update ..).extBut.push _).push _))))
theorem kVl {K:Type} [DecidableEq K] (knd:HeapKind P w K) (a:Addr) (hd:(d == sysModules)=false):
  MeetsIn P w (Builtin.«dict.get» ⟨[.ref d,.ref a],[]⟩) (fun A R s=>knd.room A.in1/\∃k xs,knd.is s.heap k a/\s.heap.DictOfH knd d xs/\R (.ok (.ret (((atKey xs k).map (·.2)).getD .none))) {s with toks:=s.toks+knd.draws k}):=
 .of_wp fun A R (s) ⟨hu,k,xs,hkey,hm,h⟩=>by
  unfold Builtin.«dict.get»; refine wpAny_bind ?_
  unfold Builtin.Dict.keyAndDefault;refine wpAny_bind (wpAny_notOrdered_dict hm.typeIs ?_)
  refine (show wpAny _ _ (pure (d,Value.ref a,none)) _ _ s from wpAny_pure ?_)
  refine wpAny_bind (m:=dictGet d (.ref a)) (wpAny_dictGet_heap hu hkey hm ?_)
  cases e:(atKey xs k).map (·.2) with
  | some v=>rw[e] at h;exact wpAny_pure ⟨_,rfl,h⟩
  | none=>
   rw[e] at h
   refine wpAny_bind (m:=Builtin.Dict.missed d (.ref a)) ?_
   unfold Builtin.Dict.missed
   rw[if_neg (by rw[hd];exact (Bool.false_ne_true))]
   exact wpAny_pure (wpAny_pure ⟨_,rfl,h⟩)
end
section
variable {X:Cx}
def qQm:T->List T->Gp->VK3->Prop:=fun x as G Q=>∃p ys o,x= .ref p/\as=[.tup ys]/\dAt G (.ref p) (.tup ys)=some o/\Q (o.getD .non) G
theorem m_getD (hu:X.A.units+20<cLine):Mt3 X "dict.get" qQm:=by
 rintro pins s τ G H x as v us Q ⟨σ,I,hs,hg⟩ ⟨a,ra,rv⟩ ⟨bs,rbs,rus⟩ ⟨p,ys,o,ex,ea,hd,q⟩
 subst ex;subst ea
 cases (show a= .ref p from ra);cases rv
 obtain⟨b,rfl,rb⟩:=jUm rbs
 obtain⟨u1,rfl,ru1⟩:=rus.one
 obtain⟨p',ov,ep,g,e1,e2⟩:=kJo hg ra rb hd
 cases ep
 obtain⟨q',vs,e,h3,h4⟩:=(show ∃q vs,b= .ref q/\H q=some (.tup vs)/\Reps X.K H ys vs from rb)
 subst e
 cases (show u1=Value.ref q' from ru1)
 rcases g with ⟨kvs,k,e,ey,l⟩ | ⟨kvs,k,b,e,ey,eb,l⟩
 ·cases k<;>cases ey
 ·cases ey
  obtain⟨z,hdd,xs,rel,dd⟩:=kVs I.hok e
  refine call_meetsIn PySem.F.slot_dict_get dd.typeIs PySem.F.entry_dict_get (PySem.F.args_dict_get_2 _ _) (kVl (jJk X.prog X.w) q' hdd) ⟨jJ4 hu,k,xs,jXi I.hok eb,dd,?_⟩
  have ro:=rel.val k
  rw[<-l] at ro
  cases ov with
  | none=>
   cases o with
   | some t=>cases e1
   | none=>
    cases ea:atKey xs k with
    | some pp=>rw[ea] at ro;exact (show False from ro).elim
    | none=>exact⟨.non,G,H,.refl H,⟨σ,I.tok _,hs,hg⟩,⟨.non,rfl,rfl⟩,q⟩
  | some wv=>
   cases o with
   | none=>cases e1
   | some t=>
    obtain⟨wv',e',rt⟩:=e2 t rfl
    cases e'
    cases ea:atKey xs k with
    | none=>rw[ea] at ro;exact (show False from ro).elim
    | some pp=>rw[ea] at ro;exact⟨t,G,H,.refl H,⟨σ,I.tok _,hs,hg⟩,⟨wv,rt,ro⟩,q⟩
theorem kVo {K:PySem.W.Frag} {H:Hp} {x:T} {a:V} {k:Key} (h:jVt x=some k) (r:a=kV k):Rep K H x a:=by
 subst r
 cases x with
 | int i=>cases h;exact rfl
 | str i=>cases h;exact rfl
 | _=>cases h
theorem jVx {K:PySem.W.Frag} {H:Hp} {κ:Type} {f:T->Option κ} {R:κ->V->Prop} (hf:∀x k a,f x=some k->R k a->Rep K H x a):∀(xs:List T) {vs:List V} {ks:List κ},allK f xs=some ks->Paired R ks vs->Reps K H xs vs
 | [],_,_,h,r=>by cases h;cases r;exact rfl
 | x::xs,_,ks,h,r=>by
  unfold allK at h
  cases e1:f x with
  | none=>rw[e1] at h;cases h
  | some k=>
   cases e2:allK f xs with
   | none=>rw[e1,e2] at h;cases h
   | some ks'=>
    rw[e1,e2] at h;cases h
    cases r with
    | cons r1 r2=>exact⟨_,_,rfl,hf _ _ _ e1 r1,jVx hf xs e2 r2⟩
theorem kYf {K:PySem.W.Frag} {H:Hp} (x:T) (k:K1) (a:V) (h:key1 x=some k) (r:Rk1 H k a):Rep K H x a:=by
 cases x with
 | tup ts=>
  obtain⟨ks,h1,rfl⟩:=Option.map_eq_some_iff.mp (show (allK jVt ts).map Sum.inr=some k from h)
  obtain⟨p,vs,e,h3,h4⟩:=(show ∃p vs,a= .ref p/\H p=some (.tup vs)/\Paired (fun k v=>v=kV k) ks vs from r)
  exact⟨p,vs,e,h3,jVx (fun x k a h r=>kVo h r) _ h1 h4⟩
 | int i=>cases h;exact r
 | str i=>cases h;exact r
 | _=>cases h
theorem kYe {K:PySem.W.Frag} {H:Hp} (x:T) (k:K2) (a:V) (h:key2 x=some k) (r:Rk2 H k a):Rep K H x a:=by
 cases x with
 | tup ts=>
  obtain⟨ks,h1,rfl⟩:=Option.map_eq_some_iff.mp (show (allK key1 ts).map Sum.inr=some k from h)
  obtain⟨p,vs,e,h3,h4⟩:=(show ∃p vs,a= .ref p/\H p=some (.tup vs)/\Paired (Rk1 H) ks vs from r)
  exact⟨p,vs,e,h3,jVx kYf _ h1 h4⟩
 | int i=>cases h;exact r
 | str i=>cases h;exact r
 | _=>cases h
theorem jQw {α β:Type} {F:α->β->Prop}:∀ {l:List α} {m:List β} {i:Nat} {x:α},Paired F l m->l[i]? =some x->∃y,m[i]? =some y/\F x y
 | _,_,_,_,.nil,h=>by simp at h
 | _,_,0,_,.cons r t,h=>by cases h;exact⟨_,rfl,r⟩
 | _,_,i+1,_,.cons r t,h=>jQw (i:=i) t h
noncomputable def Itd (d:Addr) (ob:Obj) (ws:List (TKey×V)):It:=
 ⟨fun i H=>H d=some (.frz ob (.dT ws))/\i<ws.length,fun i H x H'=>H'=H/\∃b kv,ws[i]? =some kv/\x= .ref b/\TKeyAt H kv.1 b,fun i H=>H d=some (.frz ob (.dT ws))/\ws.length<=i⟩
theorem fd_at {X:Cx} {pins:List (Addr×Obj)} {σ:L2.St} {H:Hp} {s:Shared} {d:Addr} {ob:Obj} {ws:List (TKey×V)} {es:Array DictEntry} {ep:Nat} (I:Inv X pins σ H s) (h:H d=some (.frz ob (.dT ws))) (hx:ob.data= .dict es ep):
  s.heap.get? d=some ob/\es.size=ws.length/\∀(i:Nat) (e:DictEntry),es[i]? =some e->∃b kv,ws[i]? =some kv/\e.key= .ref b/\TKeyAt H kv.1 b:=by
 obtain⟨ho,z,hd,xs,rel,o,es',ep',ho',hc,hx',he,hn⟩:=(show s.heap.get? d=some ob/\ObjOk X.prog X.w H s.heap d (.dT ws) from I.hok d _ h)
 rw[ho] at ho';cases ho'
 rw[hx] at hx';cases hx'
 have l1:es.size=ws.length:=by
  have a1:=congrArg List.length he
  have a2:=Paired.length rel
  simp at a1;omega
 refine⟨ho,l1,fun i e hi=> ?_⟩
 have hil:i<ws.length:=by rw[<-l1];exact (Array.getElem?_eq_some_iff.mp hi).1
 obtain⟨q,h1,h2,h3,h4⟩:=jQw rel (List.getElem?_eq_getElem hil)
 have:=entry_at he i
 rw[hi,h1] at this
 cases this
 exact⟨q.2.1,ws[i],List.getElem?_eq_getElem hil,rfl,h3⟩
theorem qK8 {P:Program} {w:World} {K:PySem.W.Frag} {tg:Expr} (d it:Addr) {ob:Obj} {ws:List (TKey×V)} {es:Array DictEntry} {ep:Nat} (hx:ob.data= .dict es ep):Turn P w K tg (Itd d ob ws) [it] it (fun i h=>h.IsKeyIter it d i es.size ep) where
 mem:=by simp
 obj:=fun i h st b hb=>by
  have e:b=it:=by simpa using hb
  subst e
  obtain⟨o,e,c,dd⟩:=st
  exact⟨o,e,fun v z=>by rw[dd] at z;cases z⟩
 keep:=fun i h h' st k=>st.at fun o e=>k it (by simp) o e
 item:=by
  intro X hP hw hK hc i pins s σ H E I hf st hg
  subst hP hw hK
  obtain⟨hH,hi⟩:=hg
  obtain⟨ho,l1,hat⟩:=fd_at I hH hx
  have he:es[i]? =some (es[i]'(by omega)):=Array.getElem?_eq_getElem _
  obtain⟨b,kv,h1,h2,h3⟩:=hat i _ he
  obtain⟨f0,f1,f2,f3,f4,f5⟩:=hf it (by simp)
  refine kVg st ho hx he fun h' st' sb=> ?_
  have I1:Inv X pins σ H {s with heap:=h'}:=I.turned (t':=s.toks) (fun b o hb e=>(sb.2 b hb).trans e) f0 f1 f3 f4 f5
  obtain⟨o,e,c,dd⟩:=id st'
  rw[h2]
  exact⟨_,rfl,qJ0 (s:={s with heap:=h'}) e c dd (by decide) ⟨.ref b,H,I1,rfl,⟨rfl,b,kv,h1,rfl,h3⟩,st',fun b hb=>(hf b hb).1⟩⟩
 done:=by
  intro X hP hw hK hc i pins s σ H E I hf st hg
  subst hP hw hK
  obtain⟨hH,hi⟩:=hg
  obtain⟨ho,l1,hat⟩:=fd_at I hH hx
  obtain⟨f0,f1,f2,f3,f4,f5⟩:=hf it (by simp)
  exact kYz (I.ok.hd hc) st ho hx (by omega) fun h' eb=>⟨rfl,I.turned (t':=s.toks) (fun b o hb e=>eb b o hb e) f0 f1 f3 f4 f5⟩
 self:=fun _ _ _ _ _ st h=>wpAny_pyIter_keyiter st h
noncomputable def iFd (tl:TE3):TI3:=fun τ G R=>tl τ G fun x G1=>∃(p:Addr) (kvs:List (TKey×T)) (yss:List (List T)),x= .ref p/\G1 p=some (.dct kvs)/\yss.map jQp=kvs.map (fun kv=>some kv.1)/\R (yss.map T.tup) (fun _=>True) (gup G1 p (.fdc kvs))
theorem i_fd {l tg:Expr} {tl:TE3} (hl:PE3 X l tl):PI3 X tg l (iFd tl):=by
 intro pins s τ G H R I h
 refine thn (hl pins s τ G H _ I h) fun v s1 w_=>w_.el fun x G1 H1 e1 i_ r_ ⟨p,kvs,yss,ex,hG,hy,q⟩=>i_.el fun σ I1 hs1 hg1=>r_.el fun a ra rv=> ?_
 subst ex
 cases (show a= .ref p from ra);cases rv
 obtain⟨ws,h1,h2⟩:=(show ∃ws,H1 p=some (.dT ws)/\PKV X.K H1 kvs ws from hg1 p _ hG)
 obtain⟨z,hd,xs,rel,o,es,ep,ho,hc,hx,he,hn⟩:=(show ObjOk X.prog X.w H1 s1.heap p (.dT ws) from I1.hok p _ h1)
 refine kVp hd ho hc hx ?_
 have rel':KT (upd H1 p (.frz o (.dT ws))) ws xs:=KT.keeps rel fun b' ys' ec=>by rw[jJu (ne_of ec h1 (fun z=>nomatch z))];exact ec
 have I2:Inv X pins σ (upd H1 p (.frz o (.dT ws))) {s1 with heap:=s1.heap,toks:=s1.toks}:=kJn (t':=s1.toks) I1 (by rw[h1];exact True.intro) (Heap.SameBut.refl _ _) ⟨o,ho⟩ ⟨ho,z,hd,xs,rel',o,es,ep,ho,hc,hx,he,hn⟩
 have ext:Ext H1 (upd H1 p (.frz o (.dT ws))):= .upd (.dT h1)
 have fpk:∀b∈[s1.heap.objs.size],FpOk X pins (upd H1 p (.frz o (.dT ws))) b:=fun b hb=>by
  have e:b=s1.heap.objs.size:=by simpa using hb
  subst e
  exact I2.fpOk (Nat.le_refl _) (I2.hok.fresh (Nat.le_refl _))
 refine⟨s1.heap.objs.size,[s1.heap.objs.size],_,_,yss.map T.tup,fun _=>True,_,_,rfl,e1.trans ext,⟨σ,I2.kept (t':=s1.toks) fun b o e=>Heap.get?_push_of_some _ e,hs1.mono ext,hg1.upd (.dT h1) (go:= .fdc kvs) ⟨o,ws,jJ3,h2.mono ext⟩⟩,qK8 p _ (ob:=o) (ws:=ws) hx,⟨_,Heap.get?_push_size _ rfl,rfl,rfl⟩,fpk,?_,q⟩
 intro i H2 G2 e2 g2 _
 have hH2:=e2.frz p o (.dT ws) jJ3
 have hlen:yss.length=ws.length:=by
  have a1:=congrArg List.length hy
  rw[List.length_map,List.length_map] at a1
  have a2:=h2.length
  omega
 rw[List.length_map]
 refine⟨fun hi=>⟨hH2,by omega⟩,fun hi=>⟨hH2,by omega⟩,fun hi y H' ⟨eH,b,kv,g1,g2',g3⟩=> ?_⟩
 subst eH;subst g2'
 refine⟨.refl _,g2,.tup (yss[i]'hi),by rw[List.getElem?_map,List.getElem?_eq_getElem hi];rfl,?_⟩
 have hk:i<kvs.length:=by have:=h2.length;omega
 obtain⟨w',k1,k2,_⟩:=jQw h2 (List.getElem?_eq_getElem hk)
 rw[g1] at k1;cases k1
 have hyi:=congrArg (fun l=>l[i]?) hy
 simp only[List.getElem?_map,List.getElem?_eq_getElem hi,List.getElem?_eq_getElem hk,Option.map_some,Option.some.injEq] at hyi
 obtain⟨vs,t1,t2⟩:=g3
 rw[k2] at hyi
 exact⟨b,vs,rfl,t1,jVx kYe _ hyi t2⟩
end
theorem jKl:∀(names:List (Str×NameKind)) (n:Nat) (acc:List (Str×Addr)),cellsFrom n names acc=cellsFrom n names []++acc
 | [],_,_=>rfl
 | (x,k)::r,n,acc=>by
  unfold cellsFrom
  split
  ·rw[jKl r (n+1) ((x,n)::acc),jKl r (n+1) [(x,n)]];simp
  ·exact jKl r n acc
theorem jUb {x:Str} {c:Addr}:∀(names:List (Str×NameKind)) (n:Nat) (acc:List (Str×Addr)),(x,c)∈cellsFrom n names acc->(x,c)∈acc\/(x,NameKind.cell)∈names
 | [],_,_,h=> .inl h
 | (y,k)::r,n,acc,h=>by
  unfold cellsFrom at h
  split at h
  ·rename_i hk
   rcases jUb r _ _ h with z | z
   ·rcases (List.mem_cons.mp z) with q | q
    ·cases q;rw[show k= .cell from eq_of_beq hk];exact .inr List.mem_cons_self
    ·exact .inl q
   ·exact .inr (List.mem_cons_of_mem _ z)
  ·exact (jUb r _ _ h).imp id (List.mem_cons_of_mem _)
theorem jQt {x:Str}:∀(names:List (Str×NameKind)) (n:Nat) (acc:List (Str×Addr)),(∃c,acc.lookup x=some c)->∃c,(cellsFrom n names acc).lookup x=some c
 | [],_,_,h=>h
 | (y,k)::r,n,acc,h=>by
  unfold cellsFrom
  split
  ·refine jQt r _ _ ?_
   rw[List.lookup_cons]
   cases x == y with
   | true=>exact⟨_,rfl⟩
   | false=>exact h
  ·exact jQt r _ _ h
theorem jQc {x:Str}:∀(names:List (Str×NameKind)) (n:Nat) (acc:List (Str×Addr)),(x,NameKind.cell)∈names->∃c,(cellsFrom n names acc).lookup x=some c
 | [],_,_,h=>by cases h
 | (y,k)::r,n,acc,h=>by
  unfold cellsFrom
  rcases (List.mem_cons.mp h) with z | z
  ·cases z
   rw[if_pos (show (NameKind.cell == NameKind.cell)=true from rfl)]
   exact jQt r _ _ ⟨n,by rw[List.lookup_cons];simp⟩
  ·split
   ·exact jQc r _ _ z
   ·exact jQc r _ _ z
theorem jU6 {env:Env} {x:Str}:∀(names:List (Str×NameKind)),
  (names.map fun (n,k)=>if (k == NameKind.free&&env.scope.kind == .function&&env.kindOf n == some .cell) then (n,NameKind.cell) else (n,k)).lookup x=
   (names.lookup x).map fun k=>if (k == NameKind.free&&env.scope.kind == .function&&env.kindOf x == some .cell) then NameKind.cell else k
 | []=>rfl
 | (n,k)::r=>by
  rw[List.map_cons,List.lookup_cons (b:=k)]
  by_cases hx:(x == n)=true
  ·obtain rfl:x=n:=eq_of_beq hx
   by_cases hf:(k == NameKind.free&&env.scope.kind == .function&&env.kindOf x == some .cell)=true
   ·simp only[hf,if_true,List.lookup_cons,hx,Option.map_some]
   ·simp only[hf,if_false,Bool.false_eq_true,List.lookup_cons,hx,Option.map_some]
  ·by_cases hf:(k == NameKind.free&&env.scope.kind == .function&&env.kindOf n == some .cell)=true
   ·simp only[hf,if_true,List.lookup_cons,hx];exact jU6 r
   ·simp only[hf,if_false,Bool.false_eq_true,List.lookup_cons,hx];exact jU6 r
theorem jXd {scope:Scope} {env:Env} {x:Str} (h:(relabel scope env).names.lookup x=some .cell\/(relabel scope env).names.lookup x=some .free):scope.names.lookup x=some .free\/scope.names.lookup x=some .cell:=by
 have e:(relabel scope env).names.lookup x=_:=jU6 (env:=env) scope.names
 rw[e] at h
 cases hq:scope.names.lookup x with
 | none=>rw[hq] at h;simp at h
 | some k=>
  rw[hq,Option.map_some] at h
  by_cases hf:(k == NameKind.free&&env.scope.kind == .function&&env.kindOf x == some .cell)=true
  ·have:(k == NameKind.free)=true:=by rw[Bool.and_eq_true,Bool.and_eq_true] at hf;exact hf.1.1
   rw[eq_of_beq this];exact .inl rfl
  ·rw[if_neg hf] at h
   exact h.symm
noncomputable def jKy (X:Cx) (scope:Scope) (cl:List (Str×Addr)) (C:Addr) (fp:List Addr) (s:Shared) (H:Hp):Cx:=
 {X with env:=compEnvC scope (cellsFrom (C+1) scope.names cl) C X.env,s₀:=s,H₀:=H,outer:=X.stack,stack:=X.stack,ex:=fp,fn:=fun x=>scope.names.lookup x == some .cell,pn:=[],xe:=fun _ _=>False}
structure CmpOkC (X:Cx) (scope:Scope) (cl:List (Str×Addr)) (mask:List Bool):Prop where
 cl:clGo X.env scope.names []=some cl
 kind:scope.kind= .function
 cells:(scope.names.all fun y=>y.2 != .cell||scope.names.lookup y.1 == some .cell)=true
 names:(scope.names.all fun y=>y.2 != .local||scope.names.lookup y.1 == some .local)=true
 vis:(scope.names.all fun y=>y.2 != .free||X.env.kindOf y.1 == some .cell||X.env.kindOf y.1 == some .free)=true
 len:mask.length=X.N.length
 mask:((X.N.zip mask).all fun p=>p.2||(scope.names.lookup p.1 != some .local&&scope.names.lookup p.1 != some .cell))=true
section
variable {A:Around} {E:Value->Shared->Prop} {s:Shared} {M:Model}
theorem jUg {scope:Scope} {globals:Addr} {closure:List (Str×Addr)} {qual:Str} {func:Option Addr} {code:Value} {outer:Env} {builtins:Addr} {Q:Env->Shared->Prop}
  (hQ:∀h',h'.Ns s.heap.objs.size (fun _=>none)->(∀b o,s.heap.get? b=some o->h'.get? b=some o)->CellsOk h' (s.heap.objs.size+1) (cellsFrom (s.heap.objs.size+1) scope.names [])->
   Q (newEnv scope s.heap.objs.size globals (cellsFrom (s.heap.objs.size+1) scope.names closure) qual func code (some outer) builtins) {s with heap:=h'}):
  wpAny M A (newFunctionEnv scope globals closure [] qual func code (some outer) builtins) Q E s:=by
 (simp only[newFunctionEnv,Option.isSome_some,if_true])
 (refine wpAny_bind (wpAny_alloc ?_))
 (refine wpAny_bind (wpAny_layCells _ (fun name kind cells=>by cases hkc:kind == NameKind.cell<;>simp[hkc]) _ _ _ _ ?_))
 have ok:=cellsFrom_ok scope.names (s.heap.push {cls:= .type "dict",data:= .dict #[]}) (s.heap.objs.size+1) [] ⟨fun _ _ hm=>(nomatch hm),List.Pairwise.nil⟩ (by rw[Heap.size_push];exact Nat.le_refl _)
 rw[Heap.size_push] at ok
 rw[show ({s with heap:=s.heap.push {cls:= .type "dict",data:= .dict #[]} }:Shared).heap.objs.size=s.heap.objs.size+1 from Heap.size_push ..]
 refine wpAny_bind ?_
 rw[List.forIn_nil]
 exact wpAny_pure (wpAny_pure (hQ _ ((Heap.Ns.new s.heap (.type "dict")).keeps (pushCells_keeps _ _)) (fun b o e=>pushCells_keeps _ _ b o (Heap.get?_push_of_some _ e)) ok))
end
section
variable {X:Cx} {scope:Scope} {cl:List (Str×Addr)} {mask:List Bool}
theorem CmpOkC.local (c:CmpOkC X scope cl mask) {i:Nat} {x:Str} (h1:X.N[i]? =some x) (h2:mask[i]? =some false):scope.names.lookup x≠some .local/\scope.names.lookup x≠some .cell:=by
 have h:=c.mask
 rw[List.all_eq_true] at h
 have hz:(X.N.zip mask)[i]? =some (x,false):=by rw[List.getElem?_zip_eq_some];exact⟨h1,h2⟩
 have:=h _ (List.mem_of_getElem? hz)
 simpa using this
theorem CmpOkC.free (c:CmpOkC X scope cl mask) {x:Str} (h:scope.names.lookup x=some .free):X.env.kindOf x=some .cell\/X.env.kindOf x=some .free:=by
 have hv:=c.vis
 rw[List.all_eq_true] at hv
 have:=hv (x,.free) (PySem.mem_of_lookup h)
 simpa using this
theorem CmpOkC.nm (c:CmpOkC X scope cl mask):∀y∈scope.names,y.2= .local->scope.names.lookup y.1=some .local:=by
 have hv:=c.names
 rw[List.all_eq_true] at hv
 intro y hy e
 have:=hv y hy
 rw[e] at this
 simpa using this
theorem CmpOkC.own (c:CmpOkC X scope cl mask) {x:Str} {d:Addr} {n:Nat} (h:(cellsFrom n scope.names []).lookup x=some d):scope.names.lookup x=some .cell:=by
 rcases jUb _ _ _ (PySem.mem_of_lookup h) with z | z
 ·cases z
 ·have hv:=c.cells
  rw[List.all_eq_true] at hv
  have:=hv _ z
  simpa using this
theorem CmpOkC.two (_:CmpOkC X scope cl mask) {x:Str} {d:Addr} {n:Nat} (h:(cellsFrom n scope.names cl).lookup x=some d):(cellsFrom n scope.names []).lookup x=some d\/((cellsFrom n scope.names []).lookup x=none/\cl.lookup x=some d):=by
 rw[jKl,List.lookup_append] at h
 cases hf:(cellsFrom n scope.names []).lookup x with
 | none=>rw[hf] at h;exact .inr ⟨rfl,h⟩
 | some e=>rw[hf] at h;exact .inl h
theorem CmpOkC.apart (c:CmpOkC X scope cl mask) {pins:List (Addr×Obj)} {σ:L2.St} {H:Hp} {s:Shared} {h4:Heap} {b:Addr} {x:Str} {d:Addr} (hcs:CellsOk h4 (s.heap.objs.size+1) (cellsFrom (s.heap.objs.size+1) scope.names [])) (_:Inv X pins σ H s)
  (hf:∀x c,X.env.cells.lookup x=some c->c≠b) (hb:b<s.heap.objs.size) (h:(cellsFrom (s.heap.objs.size+1) scope.names cl).lookup x=some d):d≠b:=by
 rcases c.two h with z | ⟨_,z⟩
 ·have:=(hcs.empty _ _ (PySem.mem_of_lookup z)).2
  exact Nat.ne_of_gt (Nat.lt_of_lt_of_le hb (Nat.le_of_succ_le this))
 ·exact hf x d (jUz c.cl (by simp) _ _ z)
theorem kVu (c:CmpOkC X scope cl mask) {pins:List (Addr×Obj)} {σ:L2.St} {H:Hp} {s:Shared} {fp:List Addr} {h4:Heap} {tk:Nat} (I:Inv X pins σ H s) (hf:∀b∈fp,FpOk X pins H b) (ho:∀b∈fp,∃o,s.heap.get? b=some o)
  (hns:h4.Ns s.heap.objs.size fun _=>none) (hk:∀b o,s.heap.get? b=some o->h4.get? b=some o) (hcs:CellsOk h4 (s.heap.objs.size+1) (cellsFrom (s.heap.objs.size+1) scope.names [])):
  Inv (jKy X scope cl s.heap.objs.size fp s H) [] (msk mask σ) H {s with heap:=h4,toks:=tk}:=by
 have sub:=jUz c.cl (by simp)
 have old:∀x d,cl.lookup x=some d->d<s.heap.objs.size:=fun x d h=>let ⟨_,q⟩:=I.cell x d (sub _ _ h);q.lt
 have new:∀x d,(cellsFrom (s.heap.objs.size+1) scope.names []).lookup x=some d->s.heap.objs.size+1<=d:=fun x d h=>(hcs.empty _ _ (PySem.mem_of_lookup h)).2
 have fre:∀x d,scope.names.lookup x=some .free->cl.lookup x=some d->(cellsFrom (s.heap.objs.size+1) scope.names cl).lookup x=some d:=fun x d h1 h2=>by
  rw[jKl,List.lookup_append]
  cases hq:(cellsFrom (s.heap.objs.size+1) scope.names []).lookup x with
  | none=>exact h2
  | some e=>exact absurd (c.own hq) (by rw[h1];simp)
 have ok:(jKy X scope cl s.heap.objs.size fp s H).Ok:=by
  refine⟨I.ok.mod,c.kind,I.ok.glob,I.ok.blt,Nat.le_refl _,fun x y d h1 h2=> ?_,fun x hx=> ?_,fun x d hx hd=> ?_,I.ok.hd,I.ok.gd,I.ok.frames,.inl rfl,
   fun b hb=> ?_,I.bs,Nat.le_trans I.ok.bsz I.sz,fun b o e hb=> ?_,fun b hb hz=> ?_,I.stack,I.stkFree⟩
  ·rcases c.two h1 with z1 | ⟨_,z1⟩<;>rcases c.two h2 with z2 | ⟨_,z2⟩
   ·exact name_of_addr hcs.apart (PySem.mem_of_lookup z1) (PySem.mem_of_lookup z2)
   ·exact absurd (Nat.lt_of_lt_of_le (old _ _ z2) (Nat.le_of_succ_le (new _ _ z1))) (Nat.lt_irrefl _)
   ·exact absurd (Nat.lt_of_lt_of_le (old _ _ z1) (Nat.le_of_succ_le (new _ _ z2))) (Nat.lt_irrefl _)
   ·exact I.ok.inj x y d (sub _ _ z1) (sub _ _ z2)
  ·have hx':=jXd (scope:=scope) (env:=X.env) hx
   rcases hx' with z | z
   ·obtain⟨d,hd⟩:=jU0 c.cl z
    exact⟨d,fre x d z hd⟩
   ·exact jQc _ _ _ (PySem.mem_of_lookup z)
  ·have hx':scope.names.lookup x=some .cell:=eq_of_beq hx
   rcases c.two hd with z | ⟨z,_⟩
   ·exact Nat.le_of_succ_le (new _ _ z)
   ·obtain⟨e,he⟩:=jQc scope.names (s.heap.objs.size+1) [] (PySem.mem_of_lookup hx')
    rw[he] at z;cases z
  ·obtain⟨o,e⟩:=ho b hb
   exact⟨Nat.ne_of_lt (Heap.lt_size e),fun x d hd=>c.apart hcs I (hf b hb).2.2.2.2.1 (Heap.lt_size e) hd⟩
  ·rcases (hf b hb).2.2.2.1 with z | z
   ·exact I.ok.noex b o e z
   ·exact absurd (Nat.lt_of_lt_of_le (Heap.lt_size e) I.ok.bsz) (Nat.not_lt.mpr z)
  ·rcases List.mem_cons.mp (I.stkSub b hz) with z | z
   ·exact (hf b hb).2.1 z
   ·exact (hf b hb).2.2.1 z
 refine⟨ok,rfl,I.bare,Un.kept hk,⟨_,hns,fun i x v h1 h2 h3=> ?_⟩,fun x d hd=> ?_,I.hok.fresh (Nat.le_refl _),fun x d hd=> ?_,fun p hp=>absurd (show p∈([]:List (Addr×Obj)) from hp) (by simp),I.hok.kept hk,?_⟩
 ·obtain⟨m1,m2⟩:=jYj h2
  obtain⟨nl,nc⟩:=c.local h1 m1
  have fr:scope.names.lookup x=some .free:=by
   rcases h3 with z | z
   ·exact absurd (jKi (env:=X.env) z) nl
   ·exact (jXd (scope:=scope) (env:=X.env) z).elim id fun q=>absurd q nc
  have hkk:=c.free fr
  obtain⟨m,hn,hl⟩:=I.loc
  have vis:Vis X.env.scope x:=by rcases hkk with z | z;exact .inr (.inl z);exact .inr (.inr z)
  obtain⟨u,ru,lk⟩:=hl i x v h1 m2 vis
  refine⟨u,ru,?_⟩
  rcases lk with ⟨z,_⟩ | ⟨_,d,hd,cd⟩
  ·exfalso;rcases hkk with q | q<;>(rw[z] at q;cases q)
  ·obtain⟨d',hd'⟩:=jU0 c.cl fr
   have:d'=d:=by have:=sub _ _ hd';rw[hd] at this;exact (Option.some.inj this).symm
   subst this
   refine .inr ⟨?_,d',fre x d' fr hd',cd.keeps hk⟩
   rcases h3 with z | z
   ·exact absurd (jKi (env:=X.env) z) nl
   ·exact z
 ·rcases c.two hd with z | ⟨_,z⟩
  ·exact⟨none,(hcs.empty _ _ (PySem.mem_of_lookup z)).1⟩
  ·obtain⟨v,hv⟩:=I.cell x d (sub _ _ z)
   exact⟨v,hv.keeps hk⟩
 ·rcases c.two hd with z | ⟨_,z⟩
  ·exact I.hok.fresh (Nat.le_of_succ_le (new _ _ z))
  ·exact I.freeC x d (sub _ _ z)
 ·exact (jQ9 (c.len.trans I.len.symm)).trans I.len
theorem qJ7 {pins:List (Addr×Obj)} {σ σ':L2.St} {H H':Hp} {s s':Shared} {fp:List Addr} {pl:List (Addr×Obj)} {C:Addr} (I:Inv X pins σ H s) (hf:∀b∈fp,FpOk X pins H b) (hC:s.heap.objs.size<=C)
  (J:Inv (jKy X scope cl C fp s H) pl σ' H' s') {h':Heap} (hb:Heap.SameBut C s'.heap h'):Inv X pins σ H' {s' with heap:=h'}:=by
 have ne:∀b o,s.heap.get? b=some o->b≠C:=fun b o e=>Nat.ne_of_lt (Nat.lt_of_lt_of_le (Heap.lt_size e) hC)
 have u:=J.base
 have hfree:H' C=none:=J.free
 have u':Un (frs X.stack) fp H H' s.heap h':=⟨fun b o e n hb' hx=>(hb.2 b (ne b o e)).trans (u.keep b o e n hb' hx),fun b o e n hb' hx=>let ⟨sl,z⟩:=u.slot b o e n hb' hx;⟨sl,(hb.2 b (ne b o e)).trans z⟩,
  u.free,fun b o e hx=>let ⟨o',z⟩:=u.there b o e hx;⟨o',(hb.2 b (ne b o e)).trans z⟩,u.tups,u.frzs,u.tbls⟩
 have hok:HOk X.prog X.w H' h':=fun b ob e=>(J.hok b ob e).stay (fun c w' hc q=>(hb.2 c (by
  rintro rfl
  rcases hc with rfl | hc
  ·rw[hfree] at e;cases e
  ·rw[hfree] at hc;cases hc)).trans q) (fun _ q=>q) fun _ _ q=>q
 exact I.call' (s':={s' with heap:=h'}) J.os u' hok J.bare fun b hb=>⟨(hf b hb).2.2.2.1,(hf b hb).2.1,(hf b hb).2.2.2.2.1,(hf b hb).2.2.2.2.2⟩
end
section
variable {X:Cx} {scope:Scope} {cl:List (Str×Addr)} {mask:List Bool} {elt iter tg:Expr} {ifs:List Expr} {pos:Pos} {wi:TI3} {g:TG3} {tif:TT3} {te:TE3}
theorem kQp (hc:X.calm=true) (ok:CmpOkC X scope cl mask)
  (hgk:kKx mask g) (hg:∀C fp s H,PG3 (jKy X scope cl C fp s H) tg g) (hif:∀C fp s H,PIf3 (jKy X scope cl C fp s H) ifs tif) (he:∀C fp s H,PE3 (jKy X scope cl C fp s H) elt te)
  {pins:List (Addr×Obj)} {τ:St3} {H:Hp} {Q:VK3} {itv:Value} {s2:Shared} {E:Value->Shared->Prop} {RR:Value->Addr->Result->Shared->Prop}
  (h2:PIE3 X pins τ H tg (fun xs stay G=>jZz mask g tif te τ xs stay G Q) itv s2)
  (hRR:∀D C s' m,s'.heap.Ns C m->(∃G1 H1,Ext H H1/\H1 C=none/\Q (.ref D) G1/\∀h',Heap.SameBut C s'.heap h'->Inv3 X pins τ G1 H1 {s' with heap:=h'})->(∃oC,s'.heap.get? C=some oC/\C≠X.env.locals/\C∉X.fs/\∀v,oC.data≠ .cell v)->(∀x c,X.env.cells.lookup x=some c->c≠C)->(∀p∈X.pn++pins,p.1≠C)->X.s₀.heap.objs.size<=C->RR (.ref D) C (.ok .next) s'):
  wpAny (model X.prog X.w) X.A (newList []) (fun acc s₃=>wpAny (model X.prog X.w) X.A (newFunctionEnv scope X.env.globals cl [] X.env.qual none .none (some X.env)) (fun cenv s₄=>
   codeAny (model X.prog X.w) X.A (.compStart (.ListComp elt [⟨tg,iter,ifs,0⟩] scope pos) 0 itv acc {cenv with scope:=relabel scope X.env}) (RR acc cenv.locals) s₄) E s₃) E s2:=by
 obtain⟨it,fp,tn,J,xs,stay,G2,H2,e,eH,⟨σ,I2,hs2,hg2⟩,T0,st2,f2,IT,hq⟩:=h2
 subst e
 refine wpAny_newObj_type (jUg fun h4 hns hk4 hcs=> ?_)
 dsimp only at hns hk4 hcs ⊢
 have hD:H2 s2.heap.objs.size=none:=I2.hok.fresh (Nat.le_refl _)
 generalize hs3:({s2 with heap:=s2.heap.push {cls:= .type "list",dict:=none,data:= .seq ([]:List Value).toArray} }:Shared)=s3
 have eh3:s2.heap.push {cls:= .type "list",dict:=none,data:= .seq ([]:List Value).toArray}=s3.heap:=by rw[<-hs3]
 have I3:Inv X pins σ (upd H2 s2.heap.objs.size (.lst [])) s3:=by
  rw[<-hs3]
  exact I2.laid (t':=s2.toks) (fun b u e=>Heap.get?_push_of_some _ e) (Nat.le_refl _) ⟨Nat.zero_le _,[],0,.nil,Heap.get?_push_size _ rfl⟩
 rw[eh3] at hns hk4 hcs ⊢
 generalize hDd:s2.heap.objs.size=D at *
 have e3:Ext H2 (upd H2 D (.lst [])):= .upd (.none hD)
 have hg3:GRel X.K (upd H2 D (.lst [])) (gup G2 D (.lst [])):=hg2.lstNew (show Reps X.K H2 [] [] from rfl) (.none hD)
 have obj2:∀b∈fp,∃o,s2.heap.get? b=some o:=fun b hb=>let ⟨o,e,_⟩:=T0.obj 0 _ st2 b hb;⟨o,e⟩
 have fD:∀b∈fp,b≠D:=fun b hb=>by obtain⟨o,e⟩:=obj2 b hb;rw[<-hDd];exact Nat.ne_of_lt (Heap.lt_size e)
 have f3:∀b∈fp,FpOk X pins (upd H2 D (.lst [])) b:=fun b hb=>⟨by rw[jJu (fD b hb)];exact (f2 b hb).1,(f2 b hb).2⟩
 have k3:∀b o,s2.heap.get? b=some o->s3.heap.get? b=some o:=fun b o e=>by rw[<-eh3];exact Heap.get?_push_of_some _ e
 have obj3:∀b∈fp,∃o,s3.heap.get? b=some o:=fun b hb=>let ⟨o,e⟩:=obj2 b hb;⟨o,k3 b o e⟩
 have k4:∀b o,s3.heap.get? b=some o->h4.get? b=some o:=hk4
 have Ic:Inv (jKy X scope cl s3.heap.objs.size fp s3 (upd H2 D (.lst []))) [] (msk mask σ) (upd H2 D (.lst [])) {s3 with heap:=h4,toks:=s3.toks}:=kVu ok I3 f3 obj3 hns k4 hcs
 have st4:tn 0 h4:=T0.keep _ _ _ st2 fun b _ o e=>k4 b o (k3 b o e)
 have hl3:mask.length=τ.length:=ok.len.trans (I3.len.symm.trans hs2.1)
 obtain⟨P,p0,hst,turn,fin⟩:=hq D (hg2.fresh hD)
 have fpc:∀ {H':Hp} {pl:List (Addr×Obj)},(∀b∈fp,H' b=none)->(∀p∈pl,p.1∉fp)->∀b∈fp,FpOk (jKy X scope cl s3.heap.objs.size fp s3 (upd H2 D (.lst []))) pl H' b:=fun {H' pl} hn hp b hb=>by
  obtain⟨o,e⟩:=obj3 b hb
  refine⟨hn b hb,Nat.ne_of_lt (Heap.lt_size e),?_,.inl hb,fun x d hd=>ok.apart hcs I3 (f3 b hb).2.2.2.2.1 (Heap.lt_size e) hd,fun p hpp z=> ?_⟩
  ·intro z
   rcases List.mem_cons.mp (I3.stkSub b z) with q | q
   ·exact (f3 b hb).2.1 q
   ·exact (f3 b hb).2.2.1 q
  ·have hpp':p∈pl:=by simpa[jKy] using hpp
   exact hp p hpp' (z▸hb)
 have loop:∀s4:Shared,s4={s3 with heap:=h4,toks:=s3.toks}->
   codeAny (model X.prog X.w) X.A (.compLoop (.ListComp elt [⟨tg,iter,ifs,0⟩] scope pos) 0 (.ref it) (.ref D) (compEnvC scope (cellsFrom (s3.heap.objs.size+1) scope.names cl) s3.heap.objs.size X.env)) (RR (.ref D) s3.heap.objs.size) s4:=by
  rintro s4 rfl
  refine kKh (fun n s'=>∃i acc G' H',n=xs.length-i/\i<=xs.length/\Ext H2 H'/\Inv3 (jKy X scope cl s3.heap.objs.size fp s3 (upd H2 D (.lst []))) [] (msk mask τ) G' H' s'/\tn i s'.heap/\(∀b∈fp,H' b=none)/\P i acc G') ?_ xs.length
   ⟨0,[],_,_,rfl,Nat.zero_le _,e3,⟨_,Ic,kJg (hs2.mono e3) hl3,hg3⟩,st4,fun b hb=>(f3 b hb).1,p0⟩
  rintro n s5 ⟨i,acc,G5,H5,en,hi5,e5,⟨σ5,I5,hs5,hg5⟩,st5,fr5,p5⟩
  obtain⟨hstay,hacc⟩:=hst i acc G5 hi5 p5
  obtain⟨go,stop,yl⟩:=IT i H5 G5 e5 hg5 hstay
  by_cases hlt:i<xs.length
  ·refine thn (T0.item (jKy X scope cl s3.heap.objs.size fp s3 (upd H2 D (.lst []))) rfl rfl rfl hc i [] s5 σ5 H5 (fun _ _=>False) I5 (fpc fr5 (by simp)) st5 (go hlt)) fun r s6 ⟨u,hr,h6⟩=> ?_
   subst hr
   refine thn h6 fun _ s7 ⟨x,H7,I7,r7,y7,st7,fr7⟩=> ?_
   obtain⟨e7,g7,t,ht,rt⟩:=yl hlt x H7 y7
   have I7':=I7.pinned (fpc fr7 (by simp)) (T0.obj _ _ st7)
   refine thn (hg _ _ _ _ ([]++jQh fp s7.heap) s7 (msk mask τ) G5 H7 t u _ ⟨σ5,I7',hs5.mono e7,g7⟩ ⟨x,rt,r7⟩ (hgk _ _ _ _ (turn i t acc G5 ht p5))) fun _ s8 ⟨τ8,G8,H8,e8,I8,q8,ql8,qk8⟩=> ?_
   refine thn (hif _ _ _ _ ([]++jQh fp s7.heap) s8 τ8 G8 H8 _ I8 q8) fun b s9 ⟨G9,H9,e9,I9,q9⟩=> ?_
   have back:∀ {Ga:Gp} {Ha:Hp} {sa:Shared} {acc':List T},Ext H7 Ha->Inv3 (jKy X scope cl s3.heap.objs.size fp s3 (upd H2 D (.lst []))) ([]++jQh fp s7.heap) τ8 Ga Ha sa->P (i+1) acc' Ga->
     ∃m,m<n/\∃i acc G' H',m=xs.length-i/\i<=xs.length/\Ext H2 H'/\Inv3 (jKy X scope cl s3.heap.objs.size fp s3 (upd H2 D (.lst []))) [] (msk mask τ) G' H' sa/\tn i sa.heap/\(∀b∈fp,H' b=none)/\P i acc G':=by
    rintro Ga Ha sa acc' ea ⟨σa,Ia,hsa,hga⟩ pa
    have e2a:Ext H5 Ha:=e7.trans ea
    have hla:mask.length=τ8.length:=by rw[ql8,jQ9 hl3];exact hl3
    have hsm:=kJg (mask:=mask) hsa hla
    rw[kUb hl3 ql8 qk8] at hsm
    refine⟨xs.length-(i+1),by omega,i+1,acc',Ga,Ha,rfl,hlt,e5.trans e2a,⟨msk mask σa,(Ia.weak (jQ9 (hla.trans hsa.1.symm)) fun j v hv=>(jYj hv).2).pins_of (fun p hp=>absurd hp (by simp)),hsm,hga⟩,?_,fun b hb=> ?_,pa⟩
    ·exact T0.keep _ _ _ st7 fun b hb o e=>(Ia.pin (b,o) (List.mem_append_right _ (List.mem_append_right _ (jQd hb e)))).1
    ·obtain⟨o,e,d⟩:=T0.obj _ _ st7 b hb
     exact (Ia.pin (b,o) (List.mem_append_right _ (List.mem_append_right _ (jQd hb e)))).2.1
   cases b with
   | false=>
    rw[if_neg Bool.false_ne_true] at q9 ⊢
    exact back (e8.trans e9) I9 q9
   | true=>
    rw[if_pos rfl] at q9 ⊢
    refine thn (he _ _ _ _ ([]++jQh fp s7.heap) s9 τ8 G9 H9 _ I9 q9) fun y s10 w_=>w_.el fun ty G10 H10 e10 I10 r10 ⟨hD10,hz10,q10⟩=> ?_
    obtain⟨vy,rvy,ruy⟩:=r10
    refine thn (jQa ([]++jQh fp s7.heap) s10 τ8 G10 H10 (.ref D) [ty] (.ref D) [y] (fun _ G'=>P (i+1) (acc++[ty]) G') I10 ⟨.ref D,rfl,rfl⟩ ⟨[vy],.one rvy,.cons ruy .nil⟩ ⟨D,acc,ty,rfl,rfl,hD10,hz10,q10⟩) fun _ s11 w_=>w_.el fun _ G11 H11 e11 I11 _ q11=> ?_
    exact back (((e8.trans e9).trans e10).trans e11) I11 q11
  ·have ei:i=xs.length:=by omega
   refine thn (T0.done (jKy X scope cl s3.heap.objs.size fp s3 (upd H2 D (.lst []))) rfl rfl rfl hc i [] s5 σ5 H5 (fun _ _=>False) I5 (fpc fr5 (by simp)) st5 (stop (by omega))) fun r s6 ⟨hr,I6⟩=> ?_
   subst hr;subst ei
   obtain⟨m,hn,_⟩:=I6.loc
   obtain⟨oC,es,ep,hoC,hdC,_⟩:=id hn
   refine hRR D s3.heap.objs.size s6 m hn ⟨G5,H5,eH.trans e5,I6.free,fin acc G5 p5,fun h' hb=>⟨σ,qJ7 I3 f3 (Nat.le_refl _) I6 hb,hs2.mono e5,hg5⟩⟩
    ⟨oC,hoC,Nat.ne_of_gt I3.lt,I3.nofs (Nat.le_refl _),fun v z=>by rw[hdC] at z;cases z⟩ (fun x d hd=> ?_) (fun p hp=> ?_) I3.sz
   ·obtain⟨v,q⟩:=I3.cell x d hd
    exact Nat.ne_of_lt q.lt
   ·exact Nat.ne_of_lt (Heap.lt_size (I3.pin p hp).1)
 exact codeAny_compStart_list (loop _ (by rw[<-hs3])) (T0.self _ 0 _ _ _ st4 (loop _ (by rw[<-hs3])))
theorem qUm (hc:X.calm=true) (ok:CmpOkC X scope cl mask) (hi:PI3 X tg iter wi) (hgk:kKx mask g) (hg:∀C fp s H,PG3 (jKy X scope cl C fp s H) tg g) (hif:∀C fp s H,PIf3 (jKy X scope cl C fp s H) ifs tif) (he:∀C fp s H,PE3 (jKy X scope cl C fp s H) elt te)
  (hs:∀x,foldedSetIterable iter X.env x=pure x:=by intro _;rfl):PE3 X (.ListComp elt [⟨tg,iter,ifs,0⟩] scope pos) (jKm mask wi g tif te):=by
 intro pins s τ G H Q I h
 rw[eval_ListComp]
 refine wpAny_comprehension_free (use:=none) rfl hs (jXb ok.cl) ok.kind ok.nm (thn (hi pins s τ G H _ I h) fun xv s1 h1=>thn h1 fun itv s2 h2=> ?_)
 refine kQp (RR:=fun acc C=>compPost (model X.prog X.w) X.A X.xe none (EP3 X pins τ H Q) acc C) hc ok hgk hg hif he h2 ?_
 rintro D C s' m hn ⟨G1,H1,e1,_,q1,hI⟩ _ _ _ _
 exact⟨m,hn,fun h' hb=>⟨.ref D,G1,H1,e1,hI h' hb,⟨.ref D,rfl,rfl⟩,q1⟩⟩
end
end L3
namespace L3
open PySem
namespace St
open SetTable
def lp (mask:Nat) (x:Nat×Nat):Nat×Nat:=leap mask x.1 x.2
end St
end L3
namespace L3
open PySem
namespace St
open SetTable
end St
end L3
namespace L3
open PySem PySem.Spec PyProof.Rows L2
def jYz (h h':Heap):Prop:=∀b o,h.get? b=some o->o.cls= .type "tuple"->h'.get? b=some o
section
variable {prog:Program} {w:World} {K:Type} [DecidableEq K] {c:Nat}
def Stab (V:KeyV prog w K c):Prop:=∀ {h h':Heap} {k:K} {v:Value},jYz h h'->V.is h k v->V.is h' k v
theorem kU8 {V:KeyV prog w K c} (hV:Stab V) {h h':Heap} (kp:jYz h h') {ks:List K} {vs:List Value} (hi:ItemsV V h ks vs):ItemsV V h' ks vs:=by
 induction hi with
 | nil=>exact .nil
 | cons a _ ih=>exact .cons (hV kp a) ih
theorem kQw {V:KeyV prog w K c} (hV:Stab V):Stab (jUi V):=by
 rintro h h' k v kp ⟨a,o,items,n,rfl,ho,hc,hd,hi⟩
 exact⟨a,o,items,n,rfl,kp a o ho hc,hc,hd,kU8 hV kp hi⟩
theorem kQx {V:KeyV prog w K c} (hV:Stab V):Stab (kZs V):=by
 rintro h h' (k | k) v kp hx
 ·exact hx
 ·exact kQw hV kp hx
theorem kXa:Stab (jZq prog w):=fun _ hx=>hx
theorem jVg {h h':Heap} {k:TKey} {a:Addr} (kp:jYz h h') (hx:(jJk prog w).is h k a):(jJk prog w).is h' k a:=kQw (kQx (kQx kXa)) kp hx
def intK:Key->Bool
 | .inl _=>true
 | .inr _=>false
def intS {α:Type} (f:α->Bool):Key ⊕ List α->Bool
 | .inl k=>intK k
 | .inr ks=>ks.all f
def intT:TKey->Bool:=fun ks=>ks.all (intS (intS intK))
end
section
variable {prog:Program} {w:World} {A:Around} {E:Value->Shared->Prop} {s:Shared}
end
section
variable {prog:Program} {w:World} {A:Around} {E:Value->Shared->Prop} {s:Shared}
end
section
variable {w:World} {prog:Program}
section
variable {A:Around} {R:Result->Shared->Prop} {I:Addr} {fp:List Addr} {G:Array GenState->Array GenState->Prop} {n:Nat} {P:Nat->Value->Prop} {St:Nat->Shared->Prop}
end
section
variable {E:Value->Shared->Prop} {s:Shared} {A:Around}
end
end
namespace Si
theorem own:Manifest.owners.lookup (String.ofList ['r','o','t','a','r','e','t','i','_','t','e','s'].reverse)=some Manifest.sig_set_iterator:=by kernel_rfl
end Si
section
variable {prog:Program} {w:World} {A:Around} {E:Value->Shared->Prop} {s:Shared}
end
end L3
namespace L3
open PySem PySem.Spec PyProof.Rows L2
noncomputable def lexLt {K:Type} [DecidableEq K] (lt:K->K->Option Bool):List K->List K->Option Bool
 | [],[]=>some false
 | [],_::_=>some true
 | _::_,[]=>some false
 | x::xs,y::ys=>if x=y then lexLt lt xs ys else lt x y
def ltI:Key->Key->Option Bool
 | .inl i,.inl j=>some (decide (i<j))
 | _,_=>none
def ltS {K:Type} [DecidableEq K] (lt:K->K->Option Bool):Key ⊕ List K->Key ⊕ List K->Option Bool
 | .inl x,.inl y=>ltI x y
 | .inr x,.inr y=>lexLt lt x y
 | _,_=>none
def ltK:TKey->TKey->Option Bool:=lexLt (ltS (ltS ltI))
section
variable {prog:Program} {w:World} {K:Type} [DecidableEq K] {c:Nat}
noncomputable def LtV (V:KeyV prog w K c) (lt:K->K->Option Bool):Prop:=∀ {A:Around} {E:Value->Shared->Prop} {s:Shared} {x y:K} {u v:Value} {b:Bool} {Q:Value->Shared->Prop},A.units+c<cLine->V.is s.heap x u->V.is s.heap y v->lt x y=some b->Q (.bool b) s->wpAny (model prog w) A (compareOp .Lt u v) Q E s
theorem kX7:LtV (jZq prog w) ltI:=by
 intro A E s x y u v b Q _ hx hy hl h
 rcases jJn (show jV8 x u=true from hx) with ⟨i,t,rfl,rfl⟩ | ⟨i,t,rfl,rfl⟩
 ·rcases jJn (show jV8 y v=true from hy) with ⟨j,t',rfl,rfl⟩ | ⟨j,t',rfl,rfl⟩
  ·cases hl
   exact PyProof.Rows.lt_int h
  ·cases hl
 ·cases hl
open PySem.SeqAt in
open PySem.AutoSeq1 (wpAny_loadPart') in
open PySem.MeetsSeq PySem.MeetsSeq2 PySem.MeetsSeq3 in
theorem lt_tup {V:KeyV prog w K c} {lt:K->K->Option Bool} (hV:LtV V lt):LtV (jUi V) (lexLt lt):=by
 rintro A E s x y u v b Q hu ⟨a1,o1,its1,n1,rfl,ho1,hc1,hd1,hi1⟩ ⟨a2,o2,its2,n2,rfl,ho2,hc2,hd2,hi2⟩ hl h
 obtain⟨cls,dd,data,sl⟩:=o1
 obtain⟨cls2,dd2,data2,sl2⟩:=o2
 simp only at hc1 hd1 hc2 hd2
 subst hc1 hd1 hc2 hd2
 have hT1:s.TypeIs (.ref a1) "tuple":=⟨_,ho1,rfl⟩
 have hT2:s.TypeIs (.ref a2) "tuple":=⟨_,ho2,rfl⟩
 refine (show wpAny _ _ (richCompare .Lt (.ref a1) (.ref a2)) _ _ s from wpAny_richCompare_same_room hT1 hT2 PySem.F.slot_tuple_lt (wpAny_call_entry PySem.F.slot_tuple_lt hT1 PySem.F.entry_tuple_lt ?_ (PySem.F.args_tuple_lt_2 _ _)) (by omega))
 have f2:=AutoSeq1.sub_tuple_tuple
 (obtain⟨hp,g,d,tk,os⟩:=s)
 have z1:its1.size=x.length:=by rw[hi1.length];simp
 have z2:its2.size=y.length:=by rw[hi2.length];simp
 wp_walk using wpAny_loadPart' ho1,wpAny_loadPart' ho2,wpAny_forIn_list _ (fun rest bb s'=>bb.1=none/\s'=⟨hp,g,d,tk,os⟩/\∃(vs ws:List Value) (x' y':List K),rest=vs.zip ws/\ItemsV V hp x' vs/\ItemsV V hp y' ws/\x'.length+its2.size=y'.length+its1.size/\lexLt lt x' y'=some b) _
 case turn=>
  rintro⟨p,q⟩ rest bb s' ⟨hb',rfl,vs,ws,x',y',hz,hv1,hv2,hlen,hR⟩
  cases hv1 with
  | nil=>rw[List.zip_nil_left] at hz;cases hz
  | @cons k1 v1 ks1 vs1 h1 hv1'=>
   cases hv2 with
   | nil=>rw[List.zip_nil_right] at hz;cases hz
   | @cons k2 v2 ks2 vs2 h2 hv2'=>
    rw[List.zip_cons_cons] at hz
    injection hz with hyx hrest
    injection hyx with hy hx
    subst hy hx
    simp only[List.length_cons] at hlen
    have he:=V.eqAt (A:=A.in1) (s:=⟨hp,g,d,tk,os⟩) (by rw[Around.in1_units];omega) h1 h2
    refine wpAny_bind (he prog w _ _ ?_)
    by_cases e:k1=k2
    ·have hR':lexLt lt ks1 ks2=some b:=by
      have:=hR
      unfold lexLt at this
      rw[if_pos e] at this;exact this
     rw[decide_eq_true e]
     wp_walk
     exact⟨rfl,rfl,_,_,_,_,hrest,hv1',hv2',by omega,hR'⟩
    ·have hR':lt k1 k2=some b:=by
      have:=hR
      unfold lexLt at this
      rw[if_neg e] at this;exact this
     rw[decide_eq_false e]
     have hri:∀ {Q':Value->Shared->Prop} {E':Value->Shared->Prop},Q' (.bool b) ⟨hp,g,d,tk,os⟩->wpAny (model prog w) A.in1 (richCompare .Lt p q) Q' E' ⟨hp,g,d,tk,os⟩:=fun hq=>(hV (A:=A.in1) (s:=⟨hp,g,d,tk,os⟩) (by rw[Around.in1_units];omega) h1 h2 hR' hq:wpAny (model prog w) A.in1 (compareOp .Lt p q) _ _ _)
     wp_walk using hri
     exact⟨_,rfl,(fun z=>nomatch z),h⟩
 case fin=>
  rintro⟨b1,b2⟩ s' ⟨hb',rfl,vs,ws,x',y',hz,hv1,hv2,hlen,hR⟩
  simp only at hb'
  subst hb'
  have hv:b=decide (its1.size<its2.size):=by
   cases hv1 with
   | nil=>
    cases hv2 with
    | nil=>simp only[List.length_nil] at hlen;cases hR;exact (decide_eq_false (by omega)).symm
    | cons _ _=>simp only[List.length_nil,List.length_cons] at hlen;cases hR;exact (decide_eq_true (by omega)).symm
   | cons _ hv1'=>
    cases hv2 with
    | nil=>simp only[List.length_nil,List.length_cons] at hlen;cases hR;exact (decide_eq_false (by omega)).symm
    | cons _ _=>rw[List.zip_cons_cons] at hz;cases hz
  wp_walk
  refine⟨_,rfl,(fun z=>nomatch z),?_⟩
  simpa[Builtin.Tuple.tupleCompareSizes,<-hv] using h
 case h=>
  exact⟨rfl,rfl,its1.toList,its2.toList,x,y,rfl,hi1,hi2,by omega,hl⟩
theorem qKt {V:KeyV prog w K c} {lt:K->K->Option Bool} (hV:LtV V lt):LtV (kZs V) (ltS lt):=by
 rintro A E s (x | x) (y | y) u v b Q hu hx hy hl h
 ·exact kX7 (by omega) hx hy hl h
 ·cases hl
 ·cases hl
 ·exact lt_tup hV hu hx hy hl h
end
end L3
namespace L3
open PySem PySem.Spec PyProof.Rows L2 PySem.W
section
variable {n:Nat} {lt:Nat->Nat->Bool}
end
structure KOrd {K:Type} (lt:K->K->Option Bool):Prop where
 neg:∀ {a b},a≠b->∀ {c},lt a b=some c->lt b a=some !c
 tr:∀ {a b c},a≠b->b≠c->lt a b=some true->lt b c=some true->lt a c=some true
 ir:∀ {a b},a≠b->lt a b=some true->lt b a=some true->False
theorem kord_I:KOrd ltI:=by
 refine⟨?_,?_,?_⟩
 ·rintro (a | a) (b | b) h c e
  ·have hab:a≠b:=fun z=>h (by rw[z])
   simp only[ltI,Option.some.injEq] at e ⊢
   rw[<-e]
   by_cases q:a<b
   ·rw[decide_eq_true q,decide_eq_false (by omega)];rfl
   ·rw[decide_eq_false q,decide_eq_true (by omega)];rfl
  ·cases e
  ·cases e
  ·cases e
 ·rintro (a | a) (b | b) (c | c) _ _ e1 e2<;>first | cases e1;done | cases e2;done | skip
  simp only[ltI,Option.some.injEq,decide_eq_true_eq] at e1 e2 ⊢
  omega
 ·rintro (a | a) (b | b) _ e1 e2<;>first | cases e1;done | skip
  simp only[ltI,Option.some.injEq,decide_eq_true_eq] at e1 e2
  omega
section
variable {K:Type} [DecidableEq K] {lt:K->K->Option Bool}
theorem kQh (o:KOrd lt):∀ {a b:List K},a≠b->∀ {c},lexLt lt a b=some c->lexLt lt b a=some !c
 | [],[],h,_,_=>absurd rfl h
 | [],_::_,_,c,e=>by cases e;rfl
 | _::_,[],_,c,e=>by cases e;rfl
 | x::xs,y::ys,h,c,e=>by
  unfold lexLt at e ⊢
  by_cases q:x=y
  ·rw[if_pos q] at e;rw[if_pos q.symm]
   exact kQh o (fun z=>h (by rw[q,z])) e
  ·rw[if_neg q] at e;rw[if_neg (fun z=>q z.symm)]
   exact o.neg q e
theorem kUe:∀(a:List K),lexLt lt a a=some false
 | []=>rfl
 | x::xs=>by unfold lexLt;rw[if_pos rfl];exact kUe xs
theorem kUd (o:KOrd lt):∀ {a b c:List K},lexLt lt a b=some true->lexLt lt b c=some true->lexLt lt a c=some true
 | [],[],_,e,_=>by cases e
 | _::_,[],_,e,_=>by cases e
 | [],_::_,[],_,e=>by cases e
 | [],_::_,_::_,_,_=>(rfl)
 | _::_,_::_,[],_,e=>by cases e
 | x::xs,y::ys,z::zs,e1,e2=>by
  unfold lexLt at e1 e2 ⊢
  by_cases q1:x=y
  ·subst q1
   rw[if_pos rfl] at e1
   by_cases q2:x=z
   ·rw[if_pos q2] at e2 ⊢
    exact kUd o e1 e2
   ·rw[if_neg q2] at e2 ⊢
    exact e2
  ·rw[if_neg q1] at e1
   by_cases q2:y=z
   ·subst q2
    rw[if_neg q1]
    exact e1
   ·rw[if_neg q2] at e2
    by_cases q3:x=z
    ·subst q3
     exact (o.ir q1 e1 e2).elim
    ·rw[if_neg q3]
     exact o.tr q1 q2 e1 e2
theorem kJh (o:KOrd lt):KOrd (lexLt lt):=by
 refine⟨?_,?_,?_⟩
 ·intro a b h c e;exact kQh o h e
 ·intro a b c _ _ e1 e2;exact kUd o e1 e2
 ·intro a b h e1 e2
  have:=kQh o h e1
  rw[e2] at this;cases this
theorem kUf (o:KOrd lt):KOrd (ltS lt):=by
 refine⟨?_,?_,?_⟩
 ·rintro (a | a) (b | b) h c e
  ·exact kord_I.neg (fun z=>h (by rw[z])) e
  ·cases e
  ·cases e
  ·exact (kJh o).neg (fun z=>h (by rw[z])) e
 ·rintro (a | a) (b | b) (c | c) h1 h2 e1 e2<;>first | cases e1;done | cases e2;done | skip
  ·exact kord_I.tr (fun z=>h1 (by rw[z])) (fun z=>h2 (by rw[z])) e1 e2
  ·exact kUd o e1 e2
 ·rintro (a | a) (b | b) h e1 e2<;>first | cases e1;done | skip
  ·exact kord_I.ir (fun z=>h (by rw[z])) e1 e2
  ·exact (kJh o).ir (fun z=>h (by rw[z])) e1 e2
end
theorem kord:KOrd ltK:=kJh (kUf (kUf kord_I))
theorem kQi {a b c:TKey} (h1:ltK a b=some true) (h2:ltK b c=some true):ltK a c=some true:=kUd (kUf (kUf kord_I)) h1 h2
def kJ9:TKey->Bool->Prop
 | .inl _::_,b=>b=true
 | .inr _::_,b=>b=false
 | [],_=>False
section
variable {prog:Program} {w:World} {A:Around} {E:Value->Shared->Prop} {s:Shared}
theorem kJ6 {Q:Bool->Shared->Prop} {b:Bool} {n1 n2:Nat} {c:Bool} (hu:A.units+6<cLine) (hq:Q c s):∀(i:Nat) (x y:TKey) (vs ws:List Value),ItemsV (vk2 prog w) s.heap x vs->ItemsV (vk2 prog w) s.heap y ws->x.length+n2=y.length+n1->lexLt (ltS (ltS ltI)) x y=some c->((b&&i == 0)=true->(∀k,k∈x->i=0->x.head? =some k->∃z,k= .inl z)/\(∀k,k∈y->i=0->y.head? =some k->∃z,k= .inl z))->
  KatLex prog w A b (decide (n1<n2)) Q (vs.zip ws) i s
 | i,_,_,_,_,.nil,.nil,hn,hl,_=>by
  simp only[List.length_nil] at hn
  cases hl
  refine kat_nil ?_
  rw[decide_eq_false (by omega)];exact hq
 | i,_,_,_,_,.nil,.cons _ _,hn,hl,_=>by
  simp only[List.length_nil,List.length_cons] at hn
  cases hl
  refine kat_nil ?_
  rw[decide_eq_true (by omega)];exact hq
 | i,_,_,_,_,.cons _ _,.nil,hn,hl,_=>by
  simp only[List.length_nil,List.length_cons] at hn
  cases hl
  refine kat_nil ?_
  rw[decide_eq_false (by omega)];exact hq
 | i,_,_,_,_,@ItemsV.cons _ _ _ _ _ _ _ k1 v1 ks1 vs1 h1 t1,@ItemsV.cons _ _ _ _ _ _ _ k2 v2 ks2 vs2 h2 t2,hn,hl,hb=>by
  simp only[List.length_cons] at hn
  rw[List.zip_cons_cons]
  refine kat_cons (((vk2 prog w).eqAt (by omega) h1 h2) prog w _ _ ?_)
  unfold lexLt at hl
  by_cases e:k1=k2
  ·rw[if_pos e] at hl
   rw[decide_eq_true e]
   refine kat_yes (kJ6 hu hq (i+1) _ _ _ _ t1 t2 (by omega) hl fun z=> ?_)
   simp at z
  ·rw[if_neg e] at hl
   rw[decide_eq_false e]
   refine kat_no ?_
   cases q:(b&&i == 0) with
   | false=>exact kat_one _ _ (qKt (qKt kX7) (by omega) h1 h2 hl hq)
   | true=>
    have hi:i=0:=by simp at q;exact q.2
    obtain⟨z1,z2⟩:=hb q
    obtain⟨a,rfl⟩:=z1 k1 (List.mem_cons_self ..) hi rfl
    obtain⟨a',rfl⟩:=z2 k2 (List.mem_cons_self ..) hi rfl
    rcases jJn (show jV8 a v1=true from h1) with ⟨p,t,rfl,rfl⟩ | ⟨p,t,rfl,rfl⟩
    ·rcases jJn (show jV8 a' v2=true from h2) with ⟨p',t',rfl,rfl⟩ | ⟨p',t',rfl,rfl⟩
     ·cases hl
      exact oneLt_int hq
     ·cases hl
    ·cases hl
theorem ask_ok {b:Bool} {x y:TKey} {a1 a2:Addr} {c:Bool} {Q:Bool->Shared->Prop} (hu:A.units+6<cLine) (h1:(jJk prog w).is s.heap x a1) (h2:(jJk prog w).is s.heap y a2) (hl:ltK x y=some c) (hx:kJ9 x b) (hy:kJ9 y b) (hq:Q c s):wpAny (model prog w) A (keyLt' (tuples' b) (.ref a1) (.ref a2)) Q E s:=by
 obtain⟨p1,o1,its1,n1,e1,ho1,hc1,hd1,hi1⟩:=(show jY4 _ _ _ _ from h1)
 obtain⟨p2,o2,its2,n2,e2,ho2,hc2,hd2,hi2⟩:=(show jY4 _ _ _ _ from h2)
 cases e1;cases e2
 refine kat_lt ho1 hd1 ho2 hd2 (kJ6 hu hq 0 x y _ _ hi1 hi2 ?_ hl fun z=> ?_)
 ·have l1:=hi1.length
  have l2:=hi2.length
  simp at l1 l2
  omega
 ·have hb:b=true:=by simpa using z
  subst hb
  refine⟨fun k _ _ hk=> ?_,fun k _ _ hk=> ?_⟩
  ·match x,hx,hk with
   | .inl u::_,_,e=>cases e;exact⟨u,rfl⟩
  ·match y,hy,hk with
   | .inl u::_,_,e=>cases e;exact⟨u,rfl⟩
def tyOf (b:Bool):Value:=if b=true then .type "int" else .type "tuple"
theorem kJ4 {b:Bool}:∀(es:List (TKey×Addr)),(∀e,e∈es->(jJk prog w).is s.heap e.1 e.2/\kJ9 e.1 b/\intT e.1=true)->∃fs,KatTups s.heap (es.map fun e=> .ref e.2) fs/\fs.length=es.length/\∀v,v∈fs->Looks (model prog w) s.heap (typeOf v) (tyOf b)
 | [],_=>⟨[],.nil,rfl,fun v hv=>absurd hv (List.not_mem_nil)⟩
 | (k,a)::es,h=>by
  obtain⟨fs,t,l,hf⟩:=kJ4 es fun e he=>h e (List.mem_cons_of_mem _ he)
  obtain⟨h1,h2,h3⟩:=h (k,a) (List.mem_cons_self ..)
  obtain⟨p1,o1,its1,n1,e1,ho1,hc1,hd1,hi1⟩:=(show jY4 _ _ _ _ from h1)
  cases e1
  match k,h2,h3,hi1 with
  | .inl u::ks,hb,h3,hi=>
   cases (show b=true from hb)
   generalize hits:its1.toList=its at hi
   cases hi with
   | @cons _ v _ vs hv ht=>
    refine⟨v::fs,.cons ho1 hc1 hd1 (by rw[<-Array.getElem?_toList,hits];rfl) t,by simp[l],fun x hx=> ?_⟩
    (rcases List.mem_cons.mp hx with rfl | hx)
    ·rcases jJn (show jV8 u x=true from hv) with ⟨i,tk,_,rfl⟩ | ⟨i,tk,rfl,rfl⟩
     ·exact Looks.of_pure rfl
     ·simp[intT,intS,intK] at h3
    ·exact hf x hx
  | .inr u::ks,hb,h3,hi=>
   cases (show b=false from hb)
   generalize hits:its1.toList=its at hi
   cases hi with
   | @cons _ v _ vs hv ht=>
    obtain⟨p2,o2,its2,n2,e2,ho2,hc2,hd2,hi2⟩:=(show jY4 _ _ u v from hv)
    subst e2
    refine⟨.ref p2::fs,.cons ho1 hc1 hd1 (by rw[<-Array.getElem?_toList,hits];rfl) t,by simp[l],fun x hx=> ?_⟩
    (rcases List.mem_cons.mp hx with rfl | hx)
    ·have:=(Looks.ld (M:=model prog w) (part:=none) ho2).andThen (f:=fun o=>pure o.cls) .now
     rw[hc2] at this
     exact this
    ·exact hf x hx
theorem qQ5 {b:Bool} {es:List (TKey×Addr)} (h:∀e,e∈es->(jJk prog w).is s.heap e.1 e.2/\kJ9 e.1 b/\intT e.1=true) (hne:0<es.length) {Q:SortKind->Shared->Prop} (hq:Q (tuples' b) s):wpAny (model prog w) A (keyKind' (List.toArray (es.map fun e=>Value.ref e.2))) Q E s:=by
 obtain⟨fs,t,l,hf⟩:=kJ4 es h
 refine kat_kind (T:=tyOf b) t (by omega) hf (by cases b<;>decide) ?_
 rw[show (tyOf b != Value.type "tuple")=b by cases b<;>decide]
 exact hq
end
theorem jYf {α β:Type} {f:α->β} {l l':List β} (h:l.Perm l'):∀es:List α,l'=es.map f->∃es':List α,es'.Perm es/\l=es'.map f:=by
 induction h with
 | nil=>intro es e;cases es with | nil=>exact⟨[],.refl _,rfl⟩ | cons _ _=>cases e
 | cons x _ ih=>
  intro es e
  cases es with
  | nil=>cases e
  | cons a es=>
   rw[List.map_cons,List.cons.injEq] at e
   obtain⟨es',h1,h2⟩:=ih es e.2
   exact⟨a::es',h1.cons a,by rw[List.map_cons,e.1,h2]⟩
 | swap x y l=>
  intro es e
  match es,e with
  | a::b::es,e=>
   rw[List.map_cons,List.map_cons,List.cons.injEq,List.cons.injEq] at e
   exact⟨b::a::es,.swap _ _ _,by rw[List.map_cons,List.map_cons,e.1,e.2.1,e.2.2]⟩
 | trans _ _ ih1 ih2=>
  intro es e
  obtain⟨es',h1,h2⟩:=ih2 es e
  obtain⟨es'',h3,h4⟩:=ih1 es' h2
  exact⟨es'',h3.trans h1,h4⟩
section
variable {prog:Program} {w:World} {A:Around} {E:Value->Shared->Prop} {s:Shared}
end
def SKey (b:Bool) (ts:List T) (k:TKey):Prop:=jQp ts=some k/\kJ9 k b/\intT k=true
theorem kV4 {K:PySem.W.Frag} {H:Hp} {b:Bool}:∀ {tks:List (List T×TKey)} {vs:List V} {its:List Value},(∀e,e∈tks->SKey b e.1 e.2)->Reps K H (tks.map fun e=> .tup e.1) vs->Vals vs its->
  ∃tb:List ((List T×TKey)×Addr),tb.map (·.1)=tks/\vs=tb.map (fun e=> .ref e.2)/\its=tb.map (fun e=>Value.ref e.2)/\∀e,e∈tb->TKeyAt H e.1.2 e.2/\Rep K H (.tup e.1.1) (.ref e.2)
 | [],_,_,_,r,v=>by
  cases (show _=[] from r)
  cases v
  exact⟨[],rfl,rfl,rfl,fun e he=>absurd he (List.not_mem_nil)⟩
 | (ts,k)::tks,_,its,hk,⟨v,ws,e,r1,r2⟩,vv=>by
  subst e
  cases vv with
  | @cons _ u _ us hr hrs=>
  obtain⟨tb,h1,h2,h3,h4⟩:=kV4 (fun e he=>hk e (List.mem_cons_of_mem _ he)) r2 hrs
  obtain⟨a,vs',e,ha,hrep⟩:=(show ∃a vs',v= .ref a/\H a=some (.tup vs')/\Reps K H ts vs' from r1)
  subst e
  cases (show u=Value.ref a from hr)
  refine⟨((ts,k),a)::tb,by rw[List.map_cons,h1],by rw[List.map_cons,h2],by rw[List.map_cons,h3],fun e he=> ?_⟩
  (rcases List.mem_cons.mp he with rfl | he)
  ·exact⟨jQy (hk _ (List.mem_cons_self ..)).1 ha hrep,r1⟩
  ·exact h4 e he
theorem kXh {K:PySem.W.Frag} {H:Hp}:∀(tb:List ((List T×TKey)×Addr)),(∀e,e∈tb->Rep K H (.tup e.1.1) (.ref e.2))->Reps K H (tb.map fun e=> .tup e.1.1) (tb.map fun e=>V.ref e.2)
 | [],_=>rfl
 | e::tb,h=>⟨_,_,rfl,h e (List.mem_cons_self ..),kXh tb fun x hx=>h x (List.mem_cons_of_mem _ hx)⟩
theorem jZe:∀(bs:List ((List T×TKey)×Addr)),Vals (bs.map fun e=>V.ref e.2) (bs.map fun e=>Value.ref e.2)
 | []=> .nil
 | e::bs=> .cons rfl (jZe bs)
section
variable {X:Cx}
end
end L3
namespace L3
open PySem PySem.Spec PyProof.Rows L2
section
variable {X:Cx}
noncomputable def jV6:T->List T->Gp->VK3->Prop:=fun x as G Q=>∃p q xs ys,x= .ref p/\as=[.ref q]/\G p=some (.lst xs)/\G q=some (.lst ys)/\xs.length+ys.length<=sizeLine/\Q .non (gup G p (.lst (xs++ys)))
theorem jXs:Mt3 X "list.extend" jV6:=by
 rintro pins s τ G H x as v us Q ⟨σ,I,hs,hg⟩ ⟨a,ra,rv⟩ ⟨bs,rbs,rus⟩ ⟨p,q,xs,ys,ex,ea,hp,hq,hz,k⟩
 subst ex;subst ea
 cases (show a= .ref p from ra);cases rv
 obtain⟨b1,rfl,r1⟩:=jUm rbs
 cases (show b1= .ref q from r1)
 obtain⟨u1,rfl,ru1⟩:=rus.one
 cases ru1
 obtain⟨vs,h1,h2⟩:=hg.lst hp
 obtain⟨ws,h3,h4⟩:=hg.lst hq
 obtain⟨z,its,n,r,hl,e⟩:=I.lstM h1
 obtain⟨z',its',n',r',hl',e'⟩:=I.lstM h3
 have hlen:=h2.length
 have hlen':=h4.length
 have q1:=r.length
 have q2:=r'.length
 have hc:¬(!its.toArray.isEmpty&&Builtin.List.listTooLong (its.toArray.size+its'.toArray.size))=true:=by
  have:Builtin.List.listTooLong (its.toArray.size+its'.toArray.size)=false:=by
   unfold Builtin.List.listTooLong
   (rw[List.size_toArray,List.size_toArray])
   exact decide_eq_false (by omega)
  rw[this,Bool.and_false];exact Bool.false_ne_true
 refine call_meets F.slot_list_extend ⟨_,e,rfl⟩ F.entry_list_extend (F.args_list_extend_2 _ _) (AutoSeq1.list_extend_list_list_0 p its.toArray n q its'.toArray n' hc (by rw[List.size_toArray];omega) (by rw[List.size_toArray,List.size_toArray];omega)) ⟨e,e',?_⟩
 have e2:Ext H (upd H p (.lst (vs++ws))):= .upd (.lst h1)
 refine⟨.non,_,_,e2,⟨σ,I.lset (its':=its++its') h1 e ?_ (r.append r') ?_,hs.mono e2,hg.lstNew (xs:=xs++ys) (h2.append h4) (.lst h1)⟩,⟨.non,rfl,rfl⟩,k⟩
 ·simp
 ·rw[List.length_append];omega
end
section
variable {X:Cx}
end
section
variable {X:Cx}
def jYk (b:Int):List Int->Int
 | []=>b
 | x::xs=>jYk (if x>b then x else b) xs
theorem kVh (xs:List Int):∀(b y:Int),jYk b (xs++[y])=if y>jYk b xs then y else jYk b xs:=by
 induction xs with
 | nil=>intro b y;rfl
 | cons x xs ih=>intro b y;exact ih _ y
theorem kKq (f:Nat->Int):∀k,f (argBest (fun i j=>decide (f i>f j)) k)=jYk (f 0) ((List.range k).map fun i=>f (i+1)):=by
 intro k
 induction k with
 | zero=>rfl
 | succ k ih=>
  rw[List.range_succ,List.map_append,List.map_singleton,kVh,<-ih]
  simp only[argBest,decide_eq_true_eq]
  by_cases h:f (k+1)>f (argBest (fun i j=>decide (f i>f j)) k)
  ·rw[if_pos h,if_pos h]
  ·rw[if_neg h,if_neg h]
theorem kZd (hc:X.calm=true):kKy X (.builtin "max") (fun xs H Q=>∃p i is,xs=[.ref p]/\SqL X.K H p ((i::is).map V.int)/\Q (.int (jYk i is)) H):=by
 intro pins s σ H xs us Q I r h
 obtain⟨p,i,is,rfl,hx,q⟩:=h
 obtain⟨u,rfl,ru⟩:=kVz r
 cases ru
 obtain⟨its,r',pl,hz⟩:=I.list hx
 obtain⟨ps,e1,e2⟩:=jUh r'
 subst e1
 have hne:0<ps.toArray.size:=by
  have:=congrArg List.length e2
  simp at this ⊢; omega
 have eI:(ps.map (fun p=>Value.int p.1 p.2)).toArray=intItems ps.toArray:=by simp[intItems]
 refine max_intList (xs:=ps.toArray) (I.ok.hd hc) (eI▸pl.isList) hne fun v h' tk hv k=> ?_
 obtain⟨t,rfl⟩:=(intItems_at hv)
 have hl:ps.toArray.size-1=is.length:=by
  have:=congrArg List.length e2
  simp at this ⊢; omega
 have hn:∀j,numAt ps.toArray j=((i::is)[j]?).getD 0:=fun j=>by rw[<-e2];simp[numAt]
 refine⟨.int (jYk i is),H,I.kept k,?_,q⟩
 refine⟨t,?_⟩
 rw[kKq (numAt ps.toArray),hl]
 have a0:numAt ps.toArray 0=i:=by rw[hn];rfl
 have a1:((List.range is.length).map fun j=>numAt ps.toArray (j+1))=is:=by
  apply List.ext_getElem? ; intro j
  rw[List.getElem?_map]
  by_cases hj:j<is.length
  ·rw[List.getElem?_range hj,Option.map_some,hn,List.getElem?_cons_succ,List.getElem?_eq_getElem hj];rfl
  ·rw[List.getElem?_eq_none (by simpa using hj),List.getElem?_eq_none (by simpa using hj)];rfl
 rw[a0,a1]
def qQj:List T->Gp->VK3->Prop:=fun xs G Q=>∃p i is,xs=[.ref p]/\G p=some (.lst ((i::is).map T.int))/\Q (.int (jYk i is)) G
theorem c_maxL (hc:X.calm=true):Call3 X (.builtin "max") qQj:=
 Call3.of (kZd hc) fun H G xs as Q hg ra ⟨p,i,is,e,hG,q⟩=>by
  subst e
  obtain⟨v,rfl,rv⟩:=jUm ra
  cases (show v= .ref p from rv)
  obtain⟨vs,h1,h2⟩:=hg.lst hG
  have e:=jQe h2
  subst e
  exact⟨p,i,is,rfl,.of h1,.int _,G,.refl H,hg,rfl,q⟩
end
section
variable {X:Cx}
end
section
variable {X:Cx}
end
section
variable {X:Cx}
end
section
variable {P:Program} {w:World} {d:Addr}
end
section
variable {X:Cx}
end
section
variable {prog:Program} {w:World} {A:Around} {E:Value->Shared->Prop} {s:Shared}
end
section
variable {P:Program} {w:World} {A:Around} {E:Value->Shared->Prop} {s:Shared} {it l:Addr} {xs:Array Value}
end
section
variable {X:Cx}
end
end L3
namespace PySem
open Sem (wp)
set_option maxRecDepth 100000
theorem qUr:typeLookup (.type "list") "keys"=pure none:=by rw[typeLookup_type,builtinLookup_eq_fast];kernel_rfl
theorem kKf {prog:Program} {w:World} {A:Around} {E:Value->Shared->Prop} {s:Shared} {a:Addr} {xs:Array Value} {k:Nat} {Q:Option Value->Shared->Prop} (hA:A.handled=none) (hx:s.heap.get? a=some {cls:= .type "list",dict:=none,data:= .seq xs k,slots:= #[]})
  (h:∀h' tk,(∀b o,s.heap.get? b=some o->h'.get? b=some o)->Q none {s with heap:=h',toks:=tk}):wpAny (model prog w) A (getAttr? (.ref a) "keys") Q E s:=by
 (obtain⟨hp,g,d,tk,os⟩:=s)
 (have hT:∀tk',(⟨hp,g,d,tk',os⟩:Shared).TypeIs (.ref a) "list":=fun _=>⟨_,hx,rfl⟩)
 have f1:=sub_AttributeError
 (have f3:=F.slot_list_getattribute.lookup)
 (have f4:=F.slot_list_getattribute.bind (.ref a))
 (have f5:=am_list_getattr_none)
 unfold getAttr? getAttrBy?
 (refine wpAny_bind (wpAny_mkText ?_))
 (refine wpAny_bind (wpAny_attempt ?_))
 unfold getAttrBy
 repeat (any_goals (first | assumption | exact hT _ | ((with_reducible show wpAny _ _ (call (Value.builtin "list.__getattribute__") _ _) _ _ _);refine call_meets F.slot_list_getattribute (hT _) am_entry_list_getattribute (F.args_list_getattribute_2 _ _) (meets_getattribute_miss_list a xs k #[] _ _ qUr (by decide +kernel) (by show 4+100<=sizeLine;rw[sizeLine_eq];decide)) ⟨hx,hA,fun h' tk' e hx'=> ?_⟩) | wp_step))
 (obtain⟨t',u',he⟩:=hx'.there)
 refine (show wpAny _ _ (getattributeRaised _ _ _ _ _ _ _) _ _ _ from ?_)
 unfold getattributeRaised
 (repeat (any_goals (first | assumption | wp_step)))
 exact h _ _ hx'.keeps
end PySem
namespace L3
open PySem PySem.Spec PyProof.Rows L2
section
variable {prog:Program} {w:World} {A:Around} {E:Value->Shared->Prop} {s:Shared}
theorem jXw:entryFor table "dict.update.loop"=some Builtin.«dict.update.loop» :=entryFor_of_tree (by kernel_rfl)
theorem jQq:plainId "dict.update.loop"=true:=by decide +kernel
theorem kY6 {p:Addr} {x y:Value} {Q:List Value->Shared->Prop} (hp:IsTup s.heap p #[x,y]) (k:Q [x,y] s):wpAny (model prog w) A (Builtin.Dict.pairItems (.ref p)) Q E s:=by
 obtain⟨o,ho,hc,n,hd⟩:=id hp
 unfold Builtin.Dict.pairItems
 refine wpAny_bind (wpAny_typeOf hp.typeIs ?_)
 rw[if_pos (by decide)]
 exact wpAny_bind (wpAny_seqItems ho hd (wpAny_pure k))
theorem kY5 {kvs:List (Key×Value)} {i:Int} {y:Value} (h:(Sum.inl i:Key)∉kvs.map (·.1)):stored kvs (.inl i) y=kvs++[(.inl i,y)]:=by
 unfold stored
 rw[if_neg]
 intro z
 obtain⟨x,hx,e⟩:=List.any_eq_true.mp z
 exact h (List.mem_map.mpr ⟨x,hx,of_decide_eq_true e⟩)
structure DlAt (h:Heap) (l:Addr) (ts:List Addr) (ps:List ((Int×Tok)×Value)):Prop where
 li:h.IsList l (ts.map Value.ref).toArray
 len:ts.length=ps.length
 at_:∀(i:Nat) t p,ts[i]? =some t->ps[i]? =some p->IsTup h t #[.int p.1.1 p.1.2,p.2]
theorem DlAt.moved {h h':Heap} {l:Addr} {ts:List Addr} {ps:List ((Int×Tok)×Value)} (a:DlAt h l ts ps) (k:∀b o,h.get? b=some o->(o.cls= .type "tuple"\/b=l)->h'.get? b=some o):DlAt h' l ts ps:=
 ⟨a.li.at fun o e=>k _ o e (.inr rfl),a.len,fun i t p e1 e2=>let ⟨o,ho,hc,r⟩:=a.at_ i t p e1 e2;⟨o,k _ o ho (.inl hc),hc,r⟩⟩
def dlK (ps:List ((Int×Tok)×Value)):List (Key×Value):=ps.map fun p=>(Sum.inl p.1.1,p.2)
theorem qUq {R:Result->Shared->Prop} {it l d:Addr} {ts:List Addr} {ps:List ((Int×Tok)×Value)} (hh:A.handled=none) (dl:d≠l) (di:d≠it) (li:l≠it) (hn:(ps.map (·.1.1)).Nodup) (hs:ps.length<=sizeLine):
  ∀(k i:Nat) (s:Shared) (j:Int) (jt:Tok),ps.length-i=k->i<=ps.length->DlAt s.heap l ts ps->s.heap.IsListIter it l i->s.heap.DictOf (jJw prog w) d ((dlK ps).take i)->
   (∀h' t',h'.DictOf (jJw prog w) d (dlK ps)->(∀b o,b≠d->b≠it->s.heap.get? b=some o->h'.get? b=some o)->R (.ok (.ret .none)) {s with heap:=h',toks:=t'})->
   codeAny (model prog w) A (.builtin "dict.update.loop" ⟨[.ref d,.ref it,.int j jt,.none],[]⟩) R s:=by
 have zl:(dlK ps).length=ps.length:=by simp[dlK]
 intro k
 induction k with
 | zero=>
  intro i s j jt hk hi a hit hd hR
  have hin:i=ps.length:=by omega
  subst hin
  refine codeAny_builtin jXw ?_
  rw[Around.under_plainId jQq _]
  refine (show wpAny _ A.in1 (pyNext (.ref it) >>= _) _ _ s from ?_)
  refine wpAny_bind (wpAny_pyNext_list_end (A:=A.in1) (by simpa using hh) hit a.li (by have:=a.len;simp;omega) fun h' kp=> ?_)
  refine (show wpAny _ A.in1 (Builtin.Dict.addKeywords d [] >>= _) _ _ _ from wpAny_bind (wpAny_pure (wpAny_pure ?_)))
  rw[<-zl,List.take_length] at hd
  have hd':h'.DictOf (jJw prog w) d (dlK ps):=by
   obtain⟨o',es,ep,ho',r⟩:=hd
   exact⟨o',es,ep,kp d o' di ho',r⟩
  exact hR h' s.toks hd' fun b o _ c1 e=>kp b o c1 e
 | succ k ih=>
  intro i s j jt hk hi a hit hd hR
  have hlt:i<ps.length:=by omega
  have hlt2:i<ts.length:=by rw[a.len];exact hlt
  have tp:=a.at_ i ts[i] ps[i] (List.getElem?_eq_getElem hlt2) (List.getElem?_eq_getElem hlt)
  refine codeAny_builtin jXw ?_
  rw[Around.under_plainId jQq _]
  refine (show wpAny _ A.in1 (pyNext (.ref it) >>= _) _ _ s from ?_)
  refine wpAny_bind (wpAny_pyNext_list_item (A:=A.in1) hit a.li (x:= .ref ts[i]) (by simp[hlt2]) fun h' hit' sb=> ?_)
  have tne:∀b o,s.heap.get? b=some o->o.cls= .type "tuple"->b≠it:=fun b o ho hc=>by
   rintro rfl
   obtain⟨o',ho',hc',_⟩:=hit
   rw[ho] at ho';cases ho'
   rw[hc] at hc'
   exact absurd hc' (by decide)
  have kp1:∀b o,s.heap.get? b=some o->(o.cls= .type "tuple"\/b=l)->h'.get? b=some o:=fun b o e z=>(sb.2 b (z.elim (fun hc=>tne b o e hc) fun q=>by rw[q];exact li)).trans e
  have a':=a.moved kp1
  have hd':h'.DictOf (jJw prog w) d ((dlK ps).take i):=by
   obtain⟨o',es,ep,ho',r⟩:=hd
   exact⟨o',es,ep,(sb.2 d di).trans ho',r⟩
  have tp':IsTup h' ts[i] #[.int ps[i].1.1 ps[i].1.2,ps[i].2]:=a'.at_ i _ _ (List.getElem?_eq_getElem hlt2) (List.getElem?_eq_getElem hlt)
  have nk:(Sum.inl ps[i].1.1:Key)∉((dlK ps).take i).map (·.1):=by
   rw[List.map_take,dlK,List.map_map]
   intro z
   obtain⟨m,hm,e⟩:=List.getElem_of_mem z
   rw[List.length_take] at hm
   have hm':m<ps.length:=by simp at hm;omega
   rw[List.getElem_take,List.getElem_map] at e
   have e':ps[m].1.1=ps[i].1.1:=Sum.inl.inj e
   have:=(List.getElem_inj (i:=m) (j:=i) (h₀:=by simpa using hm') (h₁:=by simpa using hlt) hn).mp (by simpa using e')
   simp at hm;omega
  have tk1:(dlK ps).take i++[(.inl ps[i].1.1,ps[i].2)]=(dlK ps).take (i+1):=by
   rw[List.take_succ,List.getElem?_eq_getElem (by rw[zl];exact hlt)]
   simp[dlK]
  refine wpAny_bind (wpAny_holding (wpAny_bind (wpAny_tryCatch (kY6 (s:={s with heap:=h'}) tp' (wpAny_holding (wpAny_dictSet_pairs (s:={s with heap:=h'}) (jYl prog w _ _) hd' (fun h2 hd2 sb2=> ?_) (by rw[List.length_take];omega)))))))
  rw[kY5 nk,tk1] at hd2
  have dne:∀b o,h'.get? b=some o->o.cls= .type "tuple"->b≠d:=fun b o ho hc=>by
   rintro rfl
   obtain⟨o',ho',hc'⟩:=hd'.typeIs (s:={s with heap:=h'})
   rw[show h'.get? b=some o' from ho'] at ho;cases ho
   rw[hc] at hc'
   exact absurd hc' (by decide)
  refine wpAny_pure ⟨plainId_quiet jQq _,ih (i+1) _ _ _ (by omega) hlt (a'.moved fun b o e z=>(sb2.2 b (z.elim (fun hc=>dne b o e hc) fun q=>by rw[q];exact dl.symm)).trans e) (hit'.at fun o e=>(sb2.2 it di.symm).trans e) hd2 fun h3 t3 hd3 kp3=>hR h3 t3 hd3 fun b o c1 c2 e=>kp3 b o c1 c2 ((sb2.2 b c1).trans ((sb.2 b c2).trans e))⟩
theorem qUs {l:Addr} {ts:List Addr} {ps:List ((Int×Tok)×Value)} {c:Nat} (hh:A.handled=none) (hl:s.heap.get? l=some {cls:= .type "list",dict:=none,data:= .seq (ts.map Value.ref).toArray c,slots:= #[]}) (a:DlAt s.heap l ts ps) (hn:(ps.map (·.1.1)).Nodup) (hs:ps.length<=sizeLine) {Q:Value->Shared->Prop}
  (k:∀h' t',h'.DictOf (jJw prog w) s.heap.objs.size (dlK ps)->(∀b o,s.heap.get? b=some o->h'.get? b=some o)->Q (.ref s.heap.objs.size) {s with heap:=h',toks:=t'}):
  wpAny (model prog w) A (call (.type "dict") [.ref l]) Q E s:=by
 refine callType_codes (Q₁:=fun obj s₁=>obj= .ref s.heap.objs.size/\s₁={s with heap:=s.heap.push {cls:= .type "dict",data:= .dict #[]} }) PySem.F.kt_called_dict (PySem.F.kt_typeCall_dict_1 _) PySem.F.entry_dict_init (kt_code_dict_new _ ⟨rfl,rfl⟩) ?_
 rintro obj s₁ ⟨rfl,rfl⟩
 have hnew:(s.heap.push {cls:= .type "dict",data:= .dict #[]}).DictOf (jJw prog w) s.heap.objs.size []:=Heap.DictOf.new s.heap
 refine⟨hnew.typeIs,PySem.F.args_dict_init_2 _ _,?_⟩
 (unfold Builtin.«dict.__init__»)
 refine wpAny_bind ?_
 (unfold Builtin.Dict.selfAndRest)
 (refine wpAny_bind (wpAny_notOrdered_dict hnew.typeIs ?_))
 refine (show wpAny _ _ (pure (s.heap.objs.size,[Value.ref l])) _ _ _ from ?_)
 refine wpAny_pure ?_
 refine (show wpAny _ _ (Builtin.Dict.updateFrom "dict.__init__" s.heap.objs.size (.ref l) [] .none) _ _ _ from ?_)
 (unfold Builtin.Dict.updateFrom)
 have up:∀b o,s.heap.get? b=some o->(s.heap.push {cls:= .type "dict",data:= .dict #[]}).get? b=some o:=fun b o e=>Heap.get?_push_of_some _ e
 have hl0:=up _ _ hl
 have hTl:Shared.TypeIs {s with heap:=s.heap.push {cls:= .type "dict",data:= .dict #[]} } (.ref l) "list":=⟨_,hl0,rfl⟩
 refine wpAny_bind (wpAny_typeOf hTl ?_)
 rw[if_pos (by decide)]
 refine wpAny_bind (kKf (s:={s with heap:=s.heap.push {cls:= .type "dict",data:= .dict #[]} }) (by simpa using hh) hl0 fun g tk kp=> ?_)
 simp only[Option.isNone_none,if_true]
 refine wpAny_bind (wpAny_rule ?_)
 have kp':∀b o,s.heap.get? b=some o->g.get? b=some o:=fun b o e=>kp b o (up b o e)
 have a1:DlAt g l ts ps:=a.moved fun b o e _=>kp' b o e
 refine wpAny_bind (wpAny_pyIter_list (s:={s with heap:=g,toks:=tk}) a1.li ?_)
 have hd0:g.DictOf (jJw prog w) s.heap.objs.size []:=by
  obtain⟨o',es,ep,ho',r⟩:=hnew
  exact⟨o',es,ep,kp _ o' ho',r⟩
 have gd:s.heap.objs.size<g.objs.size:=by obtain⟨o',es,ep,ho',r⟩:=hd0;exact Heap.lt_size ho'
 have ll:l<s.heap.objs.size:=Heap.lt_size hl
 refine wpAny_pure ⟨plainId_quiet jQq _,qUq (A:=A.in1) (ts:=ts) (ps:=ps) (l:=l) (by simpa using hh) (Nat.ne_of_gt ll) (Nat.ne_of_lt gd) (Nat.ne_of_lt (Nat.lt_trans ll gd)) hn hs ps.length 0 _ _ _ (by omega) (Nat.zero_le _) (a1.moved fun b o e _=>Heap.get?_push_of_some _ e) ⟨_,Heap.get?_push_size _ rfl,rfl,rfl⟩ ?_ fun h4 t4 hd4 kp4=>⟨rfl,k h4 t4 hd4 fun b o e=>kp4 b o (Nat.ne_of_lt (Heap.lt_size e)) (Nat.ne_of_lt (Nat.lt_trans (Heap.lt_size e) gd)) (Heap.get?_push_of_some _ (kp' b o e))⟩⟩
 obtain⟨o',es,ep,ho',r⟩:=hd0
 exact⟨o',es,ep,Heap.get?_push_of_some _ ho',r⟩
end
theorem kQ6 {K:PySem.W.Frag} {H:Hp}:∀ {kvs:List (Int×T)} {vs:List V},Reps K H (kvs.map fun kv=>T.tup [.int kv.1,kv.2]) vs->∃qs:List (Addr×V),vs=qs.map (fun q=>V.ref q.1)/\Reps K H (kvs.map (·.2)) (qs.map (·.2))/\Paired (fun (kv:Int×T) (q:Addr×V)=>H q.1=some (.tup [.int kv.1,q.2])) kvs qs
 | [],_,h=>by cases h;exact⟨[],rfl,rfl,.nil⟩
 | kv::kvs,_,⟨v,ws,e,r,rs⟩=>by
  subst e
  obtain⟨a,us,e,h1,h2⟩:=(show ∃a us,v= .ref a/\H a=some (.tup us)/\Reps K H [.int kv.1,kv.2] us from r)
  subst e
  obtain⟨x,y,rfl,r1,r2⟩:=kK4 h2
  cases (show x= .int kv.1 from r1)
  obtain⟨qs,e1,e2,e3⟩:=kQ6 rs
  exact⟨(a,y)::qs,by rw[e1];rfl,⟨_,_,rfl,r2,e2⟩,.cons h1 e3⟩
theorem qJe {X:Cx} {pins:List (Addr×Obj)} {σ:L2.St} {H:Hp} {s:Shared} (I:Inv X pins σ H s) {kvs:List (Int×T)} {qs:List (Addr×V)} (h:Paired (fun (kv:Int×T) (q:Addr×V)=>H q.1=some (.tup [.int kv.1,q.2])) kvs qs):
  ∃ps:List ((Int×Tok)×Value),ps.map (·.1.1)=kvs.map (·.1)/\Vals (qs.map (·.2)) (ps.map (·.2))/\Paired (fun (q:Addr×V) (p:(Int×Tok)×Value)=>IsTup s.heap q.1 #[.int p.1.1 p.1.2,p.2]) qs ps:=by
 induction h with
 | nil=>exact⟨[],rfl,.nil,.nil⟩
 | @cons kv q kvs qs h t ih=>
  obtain⟨ps,e1,e2,e3⟩:=ih
  obtain⟨its,r,tp,_⟩:=I.tuple (.of h)
  obtain⟨u,v,rfl,ru,rv⟩:=r.two
  obtain⟨tk,rfl⟩:=ru
  exact⟨((kv.1,tk),v)::ps,by rw[List.map_cons,e1];rfl,.cons rv e2,.cons tp e3⟩
theorem kXs {α β:Type} {R:α->β->Prop} {l:List α} {m:List β} (h:Paired R l m):∀(i:Nat) a b,l[i]? =some a->m[i]? =some b->R a b:=by
 induction h with
 | nil=>intro i a b e;simp at e
 | @cons x y l m r t ih=>
  intro i a b e1 e2
  cases i with
  | zero=>cases e1;cases e2;exact r
  | succ i=>exact ih i a b (by simpa using e1) (by simpa using e2)
theorem jX0:∀ {ts:List Addr} {us:List Value},Vals (ts.map V.ref) us->us=ts.map Value.ref
 | [],_,.nil=>rfl
 | t::ts,_,.cons r rs=>by rw[List.map_cons,<-jX0 rs];exact congrArg (· ::_) r
theorem kv_of {kvs:List (Int×T)} {ws:List V} {ps:List ((Int×Tok)×Value)} (h1:ps.map (·.1.1)=kvs.map (·.1)) (h2:Vals ws (ps.map (·.2))):KV ((kvs.map fun kv=>(Sum.inl kv.1:Key)).zip ws) (dlK ps):=by
 induction ps generalizing kvs ws with
 | nil=>cases kvs with
  | nil=>exact .nil
  | cons=>simp at h1
 | cons p ps ih=>cases kvs with
  | nil=>simp at h1
  | cons kv kvs=>
   cases h2 with
   | cons r rs=>
    simp only[List.map_cons,List.cons.injEq] at h1
    exact .cons ⟨(congrArg Sum.inl h1.1).symm,r⟩ (ih h1.2 rs)
theorem qKr {K:PySem.W.Frag} {H:Hp}:∀ {kvs:List (Int×T)} {ws:List V},Reps K H (kvs.map (·.2)) ws->PKV K H (kvs.map fun kv=>((Sum.inl kv.1:Key),kv.2)) ((kvs.map fun kv=>(Sum.inl kv.1:Key)).zip ws)
 | [],_,h=>by cases h;exact .nil
 | kv::kvs,_,⟨v,ws,e,r,rs⟩=>by subst e;exact .cons ⟨rfl,r⟩ (qKr rs)
section
variable {X:Cx}
noncomputable def kXp:List T->Gp->VK3->Prop:=fun vs G1 Q=>∃(p:Addr) (kvs:List (Int×T)),vs=[.ref p]/\G1 p=some (.lst (kvs.map fun kv=> .tup [.int kv.1,kv.2]))/\(kvs.map (·.1)).Nodup/\kvs.length<=1000/\∀q,G1 q=none->Q (.ref q) (gup G1 q (.dck (kvs.map fun kv=>(.inl kv.1,kv.2))))
theorem qU1 (hc:X.calm=true):Call3 X (.type "dict") kXp:=by
 rintro pins s τ G H xs us Q ⟨σ,I,hs,hg⟩ ⟨as,ras,rvs⟩ ⟨p,kvs,ex,hp,hnd,hl,q⟩
 subst ex
 obtain⟨v,rfl,rv⟩:=jUm ras
 obtain⟨u,rfl,ru⟩:=rvs.one
 cases (show v= .ref p from rv)
 cases ru
 obtain⟨vs,h1,h2⟩:=hg.lst hp
 obtain⟨qs,rfl,r2,pr⟩:=kQ6 h2
 obtain⟨hz,its,n,r,hlen,e⟩:=I.lstM h1
 obtain⟨ps,p1,p2,p3⟩:=qJe I pr
 have ei:=jX0 (ts:=qs.map (·.1)) (us:=its) (by rw[List.map_map];exact r)
 subst ei
 have lq:qs.length=ps.length:=Paired.length p3
 have lk:kvs.length=qs.length:=Paired.length pr
 have big:=I.big
 have hsl:=sizeLine_eq
 refine qUs (s:=s) (ts:=qs.map (·.1)) (ps:=ps) (I.ok.hd hc) e ⟨⟨_,e,rfl,_,rfl⟩,by rw[List.length_map];exact lq,fun i t p e1 e2=> ?_⟩ (by rw[p1];exact hnd) (by omega) fun h' t' dd kp=> ?_
 ·rw[List.getElem?_map] at e1
  cases e3:qs[i]? with
  | none=>rw[e3] at e1;cases e1
  | some q=>rw[e3] at e1;cases e1;exact kXs p3 i q p e3 e2
 ·have fr:=I.hok.fresh (Nat.le_refl s.heap.objs.size)
  have I3:=I.laid (a:=s.heap.objs.size) (o:= .dK ((kvs.map fun kv=>(Sum.inl kv.1:Key)).zip (qs.map (·.2)))) (h':=h') (t':=t') kp (Nat.le_refl _) ⟨by rw[List.length_zip,List.length_map,List.length_map];omega,beq_eq_false_iff_ne.mpr (Ne.symm (Nat.ne_of_lt big)),dlK ps,kv_of p1 p2,dd⟩
  have ext:Ext H (upd H s.heap.objs.size (.dK ((kvs.map fun kv=>(Sum.inl kv.1:Key)).zip (qs.map (·.2))))):= .upd (.none fr)
  exact⟨.ref _,_,_,ext,⟨σ,I3,hs.mono ext,hg.upd (.none fr) (go:= .dck (kvs.map fun kv=>(.inl kv.1,kv.2))) ⟨_,jJ3,(qKr r2).mono ext⟩⟩,⟨.ref _,rfl,rfl⟩,q _ (hg.fresh fr)⟩
end
end L3
namespace L3
open PySem PySem.Spec PyProof.Rows L2 PySem.W
section
variable {prog:Program} {w:World} {A:Around} {E:Value->Shared->Prop} {s:Shared} {d:Addr} {o:Obj} {es:Array DictEntry} {ep:Nat}
theorem kKc {id:String} {Q:Array DictEntry->Shared->Prop} (ho:s.heap.get? d=some o) (hd:o.data= .dict es ep) (hall:∀e,e∈es.toList->(es.filter (·.hash == e.hash)).size<=1/\∃b,e.key= .ref b/\s.TypeIs (.ref b) "tuple") (h:Q es s):wpAny (model prog w) A (Builtin.Dict.entriesForEmpty id d) Q E s:=by
 (unfold Builtin.Dict.entriesForEmpty)
 (refine wpAny_bind (wpAny_dictEntries ho hd ?_))
 refine wpAny_bind ?_
 rw[<-Array.forIn_toList]
 refine wpAny_forIn_list _ (fun rest _ s'=>s'=s/\∀e,e∈rest->e∈es.toList) _ ?_ ?_ _ _ ⟨rfl,fun e he=>he⟩
 ·rintro e rest b s' ⟨rfl,hr⟩
  obtain⟨h1,p,h2,h3⟩:=hall e (hr e (List.mem_cons_self ..))
  rw[h2]
  refine wpAny_bind ?_
  unfold Builtin.Dict.quietEq
  refine wpAny_bind (wpAny_specialOf h3 PySem.F.slot_tuple_eq.lookup (wpAny_pure ?_))
  rw[if_pos (by decide),if_neg (by omega)]
  exact wpAny_pure ⟨rfl,fun e he=>hr e (List.mem_cons_of_mem _ he)⟩
 ·rintro b s' ⟨rfl,_⟩
  exact wpAny_pure h
theorem kVv {l:Addr} {Q:Value->Shared->Prop} (hl:(l == sysModules)=false) (ho:s.heap.get? l=some o) (hc:o.ExactDict) (hx:o.data= .dict es ep) (hz:es.size<=sizeLine) (hall:∀e,e∈es.toList->(es.filter (·.hash == e.hash)).size<=1/\∃b,e.key= .ref b/\s.TypeIs (.ref b) "tuple")
  (k:∀h' o' ep',h'.get? s.heap.objs.size=some o'->o'.ExactDict->o'.data= .dict es ep'->(∀b u,s.heap.get? b=some u->h'.get? b=some u)->Q (.ref s.heap.objs.size) {s with heap:=h'}):
  wpAny (model prog w) A (call (.type "dict") [.ref l]) Q E s:=by
 refine callType_codes (Q₁:=fun obj s₁=>obj= .ref s.heap.objs.size/\s₁={s with heap:=s.heap.push {cls:= .type "dict",data:= .dict #[]} }) PySem.F.kt_called_dict (PySem.F.kt_typeCall_dict_1 _) PySem.F.entry_dict_init (kt_code_dict_new _ ⟨rfl,rfl⟩) ?_
 rintro obj s₁ ⟨rfl,rfl⟩
 have hn:(s.heap.push {cls:= .type "dict",data:= .dict #[]}).get? s.heap.objs.size=some {cls:= .type "dict",data:= .dict #[]}:=Heap.get?_push_size _ rfl
 have up:∀b u,s.heap.get? b=some u->(s.heap.push {cls:= .type "dict",data:= .dict #[]}).get? b=some u:=fun b u e=>Heap.get?_push_of_some _ e
 have ho':=up _ _ ho
 have hTn:Shared.TypeIs {s with heap:=s.heap.push {cls:= .type "dict",data:= .dict #[]} } (.ref s.heap.objs.size) "dict":=⟨_,hn,rfl⟩
 have hTl:Shared.TypeIs {s with heap:=s.heap.push {cls:= .type "dict",data:= .dict #[]} } (.ref l) "dict":=⟨_,ho',hc.1⟩
 have hdl:s.heap.objs.size≠l:=fun e=>absurd (Heap.lt_size ho) (by rw[e];exact Nat.lt_irrefl _)
 refine⟨hTn,PySem.F.args_dict_init_2 _ _,?_⟩
 (unfold Builtin.«dict.__init__»)
 refine wpAny_bind ?_
 (unfold Builtin.Dict.selfAndRest)
 refine wpAny_bind (wpAny_notOrdered_dict hTn ?_)
 refine (show wpAny _ _ (pure (s.heap.objs.size,[Value.ref l])) _ _ _ from ?_)
 refine wpAny_pure ?_
 refine (show wpAny _ _ (Builtin.Dict.updateFrom "dict.__init__" s.heap.objs.size (.ref l) [] .none) _ _ _ from ?_)
 (unfold Builtin.Dict.updateFrom)
 refine wpAny_bind (wpAny_typeOf hTl ?_)
 rw[if_neg (by decide)]
 refine wpAny_bind ?_
 unfold Builtin.Dict.merge
 refine wpAny_bind ?_
 (unfold Builtin.Dict.readDirectly)
 refine wpAny_bind (wpAny_isInstance hTl isSubtype_dict_dict ?_)
 (simp only[Bool.not_true,Bool.false_eq_true,if_false])
 refine wpAny_bind (wpAny_specialOf hTl PySem.F.slot_dict_iter.lookup (wpAny_pure ?_))
 (simp only[beq_self_eq_true,if_true])
 refine wpAny_bind (wpAny_pure ?_)
 unfold Builtin.Dict.mergeDict
 rw[if_neg (by simpa using hdl)]
 unfold Builtin.Dict.showsAll
 (rw[if_neg (by rw[hl];exact Bool.false_ne_true)])
 refine wpAny_bind (wpAny_pure ?_)
 refine wpAny_bind (wpAny_dictEntries ho' hx ?_)
 dsimp only
 split
 ·refine wpAny_bind (wpAny_dictEntries hn rfl ?_)
  rw[if_pos (by rfl)]
  refine wpAny_bind (kKc ho' hx (fun e he=> ?_) ?_)
  ·obtain⟨h1,b,h2,u,h3,h4⟩:=hall e he
   exact⟨h1,b,h2,u,up _ _ h3,h4⟩
  have ex:Obj.ExactDict {cls:= .type "dict",data:= .dict #[]}:=⟨rfl,rfl,rfl⟩
  split
  ·refine wpAny_bind (wpAny_updateDictKeysTo hn rfl (wpAny_pure ?_) (by omega))
   exact wpAny_bind (wpAny_pure (wpAny_pure ⟨rfl,k _ _ _ (Heap.get?_update_self _ hn (Obj.isFreed_of_dict (Obj.data_mapDictKeys rfl _))) (ex.mapDictKeys _) (Obj.data_mapDictKeys rfl _) fun b u e=>((Heap.SameBut.update ..).2 b (Nat.ne_of_lt (Heap.lt_size e))).trans (up b u e)⟩))
  ·rename_i he
   have h0:es= #[]:=Array.isEmpty_iff.mp (by simpa using he)
   subst h0
   exact wpAny_pure (wpAny_bind (wpAny_pure (wpAny_pure ⟨rfl,k _ _ _ hn ex rfl up⟩)))
 ·rename_i he
  have h0:es= #[]:=by
   obtain⟨l⟩:=es
   cases l with
   | nil=>rfl
   | cons e l=>
    obtain⟨_,b,h2,_⟩:=hall e (by simp)
    simp[h2,keyPart] at he
  subst h0
  refine wpAny_bind (wpAny_dictEpoch ho' hx ?_)
  refine wpAny_bind (wpAny_dictEntries ho' hx ?_)
  refine wpAny_bind ?_
  (rw[Std.Legacy.Range.forIn_eq_forIn_range'])
  refine (show wpAny _ _ (forIn ([]:List Nat) PUnit.unit _) _ _ _ from ?_)
  rw[List.forIn_nil]
  exact wpAny_pure (wpAny_pure (wpAny_bind (wpAny_pure (wpAny_pure ⟨rfl,k _ _ _ hn ⟨rfl,rfl,rfl⟩ rfl up⟩))))
end
def hf (r d:Nat):Int:=reduceHash (Builtin.Tuple.tupleHashOf [hashInt r,hashInt d])
def hfs:List Int:=(List.range 12).flatMap fun r=>(List.range 12).map (hf r)
theorem kYo:hfs.Nodup:=by decide +kernel
theorem kUs {f:Nat->Nat->Int} {m:Nat}:∀ {n:Nat},((List.range n).flatMap fun r=>(List.range m).map (f r)).Nodup->∀ {r d r' d':Nat},r<n->d<m->r'<n->d'<m->f r d=f r' d'->r=r'/\d=d'
 | 0,_,_,_,_,_,hr,_,_,_,_=>absurd hr (Nat.not_lt_zero _)
 | n+1,h,r,d,r',d',hr,hd,hr',hd',e=>by
  rw[List.range_succ,List.flatMap_append,List.nodup_append] at h
  obtain⟨h1,h2,h3⟩:=h
  have mem:∀ {r d:Nat},r<n->d<m->f r d∈(List.range n).flatMap fun r=>(List.range m).map (f r):=fun {r d} hr hd=>List.mem_flatMap.mpr ⟨r,List.mem_range.mpr hr,List.mem_map.mpr ⟨d,List.mem_range.mpr hd,rfl⟩⟩
  have mem2:∀ {d:Nat},d<m->f n d∈([n]:List Nat).flatMap fun r=>(List.range m).map (f r):=fun {d} hd=>List.mem_flatMap.mpr ⟨n,List.mem_singleton.mpr rfl,List.mem_map.mpr ⟨d,List.mem_range.mpr hd,rfl⟩⟩
  rcases Nat.lt_or_ge r n with a | a
  ·rcases Nat.lt_or_ge r' n with b | b
   ·exact kUs h1 a hd b hd' e
   ·have:r'=n:=by omega
    subst this
    exact absurd e (h3 _ (mem a hd) _ (mem2 hd'))
  ·have:r=n:=by omega
   subst this
   rcases Nat.lt_or_ge r' r with b | b
   ·exact absurd e.symm (h3 _ (mem b hd') _ (mem2 hd))
   ·have:r'=r:=by omega
    subst this
    refine⟨rfl,?_⟩
    rw[List.flatMap_singleton,List.Nodup,List.pairwise_map] at h2
    rcases Nat.lt_trichotomy d d' with q | q | q
    ·exact absurd e (List.pairwise_iff_getElem.mp h2 d d' (by simpa using hd) (by simpa using hd') q|>fun z=>by simpa using z)
    ·exact q
    ·exact absurd e.symm (List.pairwise_iff_getElem.mp h2 d' d (by simpa using hd') (by simpa using hd) q|>fun z=>by simpa using z)
def kKu (k:TKey):Prop:=∃r d:Nat,r<12/\d<12/\k=[.inl (.inl (r:Int)),.inl (.inl (d:Int))]
theorem kXc {prog:Program} {w:World} {k k':TKey} (h:kKu k) (h':kKu k') (e:(jJk prog w).hash k=(jJk prog w).hash k'):k=k':=by
 obtain⟨r,d,hr,hd,rfl⟩:=h
 obtain⟨r',d',hr',hd',rfl⟩:=h'
 obtain⟨rfl,rfl⟩:=kUs kYo hr hd hr' hd' (show hf r d=hf r' d' from e)
 rfl
theorem kQ8 {α:Type} {f:α->Int} {g:α->DictEntry} (hg:∀a,(g a).hash=f a):∀ {xs:List α},(∀a,a∈xs->∀b,b∈xs->f a=f b->a=b)->xs.Nodup->∀a,a∈xs->((xs.map g).filter fun e=>e.hash == (g a).hash).length<=1
 | [],_,_,a,ha=>absurd ha List.not_mem_nil
 | x::xs,hi,hn,a,ha=>by
  rw[List.nodup_cons] at hn
  rw[List.map_cons,List.filter_cons]
  have none:∀y,y∉xs->y∈x::xs->((xs.map g).filter fun e=>e.hash == (g y).hash)=[]:=fun y hy hm=>by
   rw[List.filter_eq_nil_iff]
   intro e he z
   obtain⟨b,hb,rfl⟩:=List.mem_map.mp he
   have z:(g b).hash=(g y).hash:=by simpa using z
   rw[hg,hg] at z
   exact hy (hi b (List.mem_cons_of_mem _ hb) y hm z▸hb)
  by_cases e:x=a
  ·subst e
   rw[if_pos (by simp),none x hn.1 (List.mem_cons_self ..)]
   simp
  ·have hax:a∈xs:=(List.mem_cons.mp ha).resolve_left fun z=>e z.symm
   have ne:¬ ((g x).hash == (g a).hash)=true:=fun z=>by
    have z:(g x).hash=(g a).hash:=by simpa using z
    rw[hg,hg] at z
    exact e (hi x (List.mem_cons_self ..) a ha z)
   rw[if_neg ne]
   exact kQ8 hg (fun a ha b hb=>hi a (List.mem_cons_of_mem _ ha) b (List.mem_cons_of_mem _ hb)) hn.2 a hax
section
variable {X:Cx}
end
end L3
namespace L3
open PySem PyProof.Rows
def qUg:Bool->Keyed->Array Keyed->Nat->Nat->Nat->StateT SortSt Sem (Option Nat):=sortPriv%PySem.Builtin.gallop
def qJo:Array Keyed->Array Keyed->StateT SortSt Sem (Array Keyed):=sortPriv%PySem.Builtin.mergeLo
def qJp:Array Keyed->Array Keyed->StateT SortSt Sem (Array Keyed):=sortPriv%PySem.Builtin.mergeHi
section
variable {A:Around} {E:Value->Shared->Prop} {s:Shared} {M:Model}
structure Asks (M:Model) (A:Around) (s:Shared) (κ:SortKind) (mem:Keyed->Prop) (le:Keyed->Keyed->Prop) [∀x y,Decidable (le x y)]:Prop where
 ask:∀x y,mem x->mem y->∀(E:Value->Shared->Prop) (Q:Bool->Shared->Prop),Q (!decide (le y x)) s->wpAny M A (keyLt' κ x.1 y.1) Q E s
 tot:∀x y,mem x->mem y->le x y\/le y x
 tr:∀x y z,mem x->mem y->mem z->le x y->le y z->le x z
variable {κ:SortKind} {mem:Keyed->Prop} {le:Keyed->Keyed->Prop} [∀x y,Decidable (le x y)]
theorem kX6 (H:Asks M A s κ mem le) {x y:Keyed} (hx:mem x) (hy:mem y) {st:SortSt} (hk:kindOf st=κ) {Q:Option Bool->SortSt->Prop} (h:Q (some (!decide (le y x))) st):wpS M A E s (lt' x y) Q st:=by
 rw[lt'_eq]
 refine wpS_bind (wpS_get ?_)
 rw[hk]
 refine wpS_bind (wpS_lift (wpAny_attempt (H.ask x y hx hy _ _ ?_)))
 exact⟨rfl,wpS_pure h⟩
theorem jJy {arr:Array Keyed} {i:Nat} {x:Keyed} {st:SortSt} {Q:Keyed->SortSt->Prop} (hi:arr[i]? =some x) (h:Q x st):wpS M A E s (elem' arr i) Q st:=by
 rw[elem'_eq,hi];exact wpS_pure h
def bey (le:Keyed->Keyed->Prop) [∀x y,Decidable (le x y)] (left:Bool) (key x:Keyed):Bool:=if left=true then !decide (le key x) else decide (le x key)
theorem kZh (H:Asks M A s κ mem le) {left:Bool} {key x:Keyed} {arr:Array Keyed} {b:Nat} {st:SortSt} {Q:Option Bool->SortSt->Prop} (hk:kindOf st=κ) (hkey:mem key) (hx:arr[b]? =some x) (hm:mem x) (h:Q (some (bey le left key x)) st):
  wpS M A E s (do let y <-elem' arr b;if left=true then lt' y key else do let r <-lt' key y;pure (r.map fun z=> !z)) Q st:=by
 refine wpS_bind (jJy hx ?_)
 cases left with
 | true=>rw[if_pos rfl];exact kX6 H hm hkey hk h
 | false=>
  rw[if_neg (by decide)]
  refine wpS_bind (kX6 H hkey hm hk (wpS_pure ?_))
  simpa[bey] using h
theorem jQz {left:Bool} {key:Keyed} {arr:Array Keyed} {base n hint:Nat} {st:SortSt} {Q:Option Nat->SortSt->Prop} (H:Asks M A s κ mem le) (hk:kindOf st=κ) (hkey:mem key) {f:Nat->Keyed} (hf:∀i,i<n->arr[base+i]? =some (f i)) (hm:∀i,i<n->mem (f i)) (hs:∀i j,i<=j->j<n->le (f i) (f j)) (hh:hint<n)
  (h:∀k,k<=n->(∀i,i<k->bey le left key (f i)=true)->(∀i,k<=i->i<n->bey le left key (f i)=false)->Q (some k) st):
  wpS M A E s (qUg left key arr base n hint) Q st:=by
 have ask:∀(i:Nat) {Q:Option Bool->SortSt->Prop},i<n->Q (some (bey le left key (f i))) st->wpS M A E s (do let y <-elem' arr (base+i);if left=true then lt' y key else do let r <-lt' key y;pure (r.map fun z=> !z)) Q st:=fun i {Q} hi q=>kZh H hk hkey (hf i hi) (hm i hi) q
 have mono:∀i j,i<=j->j<n->bey le left key (f j)=true->bey le left key (f i)=true:=by
  intro i j hij hj hb
  unfold bey at hb ⊢
  cases left with
  | true=>
   rw[if_pos rfl] at hb ⊢
   simp only[Bool.not_eq_true',decide_eq_false_iff_not] at hb ⊢
   exact fun z=>hb (H.tr _ _ _ hkey (hm i (by omega)) (hm j hj) z (hs i j hij hj))
  | false=>
   rw[if_neg (by decide)] at hb ⊢
   rw[decide_eq_true_eq] at hb ⊢
   exact H.tr _ _ _ (hm i (by omega)) (hm j hj) hkey (hs i j hij hj) hb
 refine wpS_bind (ask hint hh ?_)
 cases hbh:bey le left key (f hint) with
 | true=>
  dsimp only
  rw[if_pos rfl]
  refine wpS_bind (wpS_mono (wpS_forRange (I:=fun i (c:Option (Option Nat)×Nat×Nat) st'=>st=st'/\c.1=none/\c.2.1<c.2.2/\i+1<=c.2.2/\hint+c.2.1<n/\bey le left key (f (hint+c.2.1))=true)
   (Q:=fun (c:Option (Option Nat)×Nat×Nat) st'=>st=st'/\c.1=none/\c.2.1<c.2.2/\hint+c.2.1<n/\bey le left key (f (hint+c.2.1))=true/\(c.2.2<n-hint->bey le left key (f (hint+c.2.2))=false)) ?_ ?_ ⟨rfl,rfl,by decide,by decide,hh,hbh⟩) ?_)
  ·rintro x ⟨r,la,of⟩ st' _ hx ⟨rfl,rfl,i1,i2,i3,i4⟩
   dsimp only at i1 i2 i3 i4 ⊢
   by_cases c:of>=n-hint
   ·rw[if_pos c]
    exact wpS_pure ⟨rfl,rfl,i1,i3,i4,fun z=>absurd c (by dsimp only at z;omega)⟩
   ·rw[if_neg c]
    refine wpS_bind (ask _ (by omega) ?_)
    cases hbo:bey le left key (f (hint+of)) with
    | false=>
     dsimp only
     (rw[if_pos (show (!false)=true from rfl)])
     exact wpS_pure ⟨rfl,rfl,i1,i3,i4,fun _=>hbo⟩
    | true=>
     dsimp only
     rw[if_neg (by decide)]
     exact wpS_pure ⟨rfl,rfl,by dsimp only;omega,by dsimp only;omega,by dsimp only;omega,hbo⟩
  ·rintro⟨r,la,of⟩ st' ⟨rfl,rfl,i1,i2,i3,i4⟩
   dsimp only at i1 i2 i3 i4 ⊢
   exact⟨rfl,rfl,i1,i3,i4,fun z=>absurd z (by omega)⟩
  ·rintro⟨r,la,of⟩ st' ⟨rfl,rfl,i1,i3,i4,i5⟩
   dsimp only at i1 i3 i4 i5 ⊢
   have PL:∀i,i<hint+la+1->bey le left key (f i)=true:=fun i hi=>mono i _ (by omega) i3 i4
   have PH:∀i,hint+min of (n-hint)<=i->i<n->bey le left key (f i)=false:=fun i hi hin=>by
    have hon:=i5 (by omega)
    cases hbi:bey le left key (f i) with
    | false=>rfl
    | true=>rw[mono (hint+of) i (by omega) hin hbi] at hon;cases hon
   have LO:hint+la+1<=hint+min of (n-hint):=by omega
   have HI:hint+min of (n-hint)<=n:=by omega
   refine wpS_bind (wpS_mono (wpS_forRange (I:=fun i (c:Option (Option Nat)×Nat×Nat) st'=>st=st'/\c.1=none/\c.2.1<=c.2.2/\c.2.2<=n/\c.2.2-c.2.1<=n-i/\(∀i,i<c.2.1->bey le left key (f i)=true)/\(∀i,c.2.2<=i->i<n->bey le left key (f i)=false))
    (Q:=fun (c:Option (Option Nat)×Nat×Nat) st'=>st=st'/\c.1=none/\c.2.2<=n/\(∀i,i<c.2.2->bey le left key (f i)=true)/\(∀i,c.2.2<=i->i<n->bey le left key (f i)=false)) ?_ ?_ ⟨rfl,rfl,LO,HI,by dsimp only;omega,PL,PH⟩) ?_)
   ·rintro x ⟨r,lo,hi⟩ st' _ hx ⟨rfl,rfl,i1,i2,i3,i4,i5⟩
    dsimp only at i1 i2 i3 i4 i5 ⊢
    by_cases c:lo>=hi
    ·rw[if_pos c]
     exact wpS_pure ⟨rfl,rfl,i2,fun i hi'=>i4 i (by dsimp only at hi';omega),i5⟩
    ·rw[if_neg c]
     have hmm:lo+(hi-lo) / 2<hi:=by omega
     refine wpS_bind (ask _ (by omega) ?_)
     cases hbm:bey le left key (f (lo+(hi-lo) / 2)) with
     | true=>
      dsimp only
      rw[if_pos rfl]
      exact wpS_pure ⟨rfl,rfl,by dsimp only;omega,i2,by dsimp only;omega,fun i hi'=>mono i _ (by dsimp only at hi';omega) (by omega) hbm,i5⟩
     | false=>
      dsimp only
      rw[if_neg (by decide)]
      refine wpS_pure ⟨rfl,rfl,by dsimp only;omega,by dsimp only;omega,by dsimp only;omega,i4,fun i hi' hin=> ?_⟩
      dsimp only at hi'
      cases hbi:bey le left key (f i) with
      | false=>rfl
      | true=>rw[mono _ i hi' hin hbi] at hbm;cases hbm
   ·rintro⟨r,lo,hi⟩ st' ⟨rfl,rfl,i1,i2,i3,i4,i5⟩
    dsimp only at i1 i2 i3 i4 i5 ⊢
    exact⟨rfl,rfl,i2,fun i hi'=>i4 i (by omega),i5⟩
   ·rintro⟨r,lo,hi⟩ st' ⟨rfl,rfl,i1,i2,i3⟩
    dsimp only at i1 i2 i3 ⊢
    exact wpS_pure (h hi i1 i2 i3)
 | false=>
  dsimp only
  rw[if_neg (by decide)]
  refine wpS_bind (wpS_mono (wpS_forRange (I:=fun i (c:Option (Option Nat)×Nat×Nat) st'=>st=st'/\c.1=none/\c.2.1<c.2.2/\i+1<=c.2.2/\c.2.1<=hint/\bey le left key (f (hint-c.2.1))=false)
   (Q:=fun (c:Option (Option Nat)×Nat×Nat) st'=>st=st'/\c.1=none/\c.2.1<c.2.2/\c.2.1<=hint/\bey le left key (f (hint-c.2.1))=false/\(c.2.2<hint+1->bey le left key (f (hint-c.2.2))=true)) ?_ ?_ ⟨rfl,rfl,by decide,by decide,Nat.zero_le _,hbh⟩) ?_)
  ·rintro x ⟨r,la,of⟩ st' _ hx ⟨rfl,rfl,i1,i2,i3,i4⟩
   dsimp only at i1 i2 i3 i4 ⊢
   by_cases c:of>=hint+1
   ·rw[if_pos c]
    exact wpS_pure ⟨rfl,rfl,i1,i3,i4,fun z=>absurd c (by dsimp only at z;omega)⟩
   ·rw[if_neg c]
    refine wpS_bind (ask _ (by omega) ?_)
    cases hbo:bey le left key (f (hint-of)) with
    | true=>
     dsimp only
     rw[if_pos rfl]
     exact wpS_pure ⟨rfl,rfl,i1,i3,i4,fun _=>hbo⟩
    | false=>
     dsimp only
     rw[if_neg (by decide)]
     exact wpS_pure ⟨rfl,rfl,by dsimp only;omega,by dsimp only;omega,by dsimp only;omega,hbo⟩
  ·rintro⟨r,la,of⟩ st' ⟨rfl,rfl,i1,i2,i3,i4⟩
   dsimp only at i1 i2 i3 i4 ⊢
   exact⟨rfl,rfl,i1,i3,i4,fun z=>absurd z (by omega)⟩
  ·rintro⟨r,la,of⟩ st' ⟨rfl,rfl,i1,i3,i4,i5⟩
   dsimp only at i1 i3 i4 i5 ⊢
   have PL:∀i,i<hint+1-min of (hint+1)->bey le left key (f i)=true:=fun i hi=>mono i (hint-of) (by omega) (by omega) (i5 (by omega))
   have PH:∀i,hint-la<=i->i<n->bey le left key (f i)=false:=fun i hi hin=>by
    cases hbi:bey le left key (f i) with
    | false=>rfl
    | true=>rw[mono (hint-la) i hi hin hbi] at i4;cases i4
   have LO:hint+1-min of (hint+1)<=hint-la:=by omega
   have HI:hint-la<=n:=by omega
   refine wpS_bind (wpS_mono (wpS_forRange (I:=fun i (c:Option (Option Nat)×Nat×Nat) st'=>st=st'/\c.1=none/\c.2.1<=c.2.2/\c.2.2<=n/\c.2.2-c.2.1<=n-i/\(∀i,i<c.2.1->bey le left key (f i)=true)/\(∀i,c.2.2<=i->i<n->bey le left key (f i)=false))
    (Q:=fun (c:Option (Option Nat)×Nat×Nat) st'=>st=st'/\c.1=none/\c.2.2<=n/\(∀i,i<c.2.2->bey le left key (f i)=true)/\(∀i,c.2.2<=i->i<n->bey le left key (f i)=false)) ?_ ?_ ⟨rfl,rfl,LO,HI,by dsimp only;omega,PL,PH⟩) ?_)
   ·rintro x ⟨r,lo,hi⟩ st' _ hx ⟨rfl,rfl,i1,i2,i3,i4,i5⟩
    dsimp only at i1 i2 i3 i4 i5 ⊢
    by_cases c:lo>=hi
    ·rw[if_pos c]
     exact wpS_pure ⟨rfl,rfl,i2,fun i hi'=>i4 i (by dsimp only at hi';omega),i5⟩
    ·rw[if_neg c]
     have hmm:lo+(hi-lo) / 2<hi:=by omega
     refine wpS_bind (ask _ (by omega) ?_)
     cases hbm:bey le left key (f (lo+(hi-lo) / 2)) with
     | true=>
      dsimp only
      rw[if_pos rfl]
      exact wpS_pure ⟨rfl,rfl,by dsimp only;omega,i2,by dsimp only;omega,fun i hi'=>mono i _ (by dsimp only at hi';omega) (by omega) hbm,i5⟩
     | false=>
      dsimp only
      rw[if_neg (by decide)]
      refine wpS_pure ⟨rfl,rfl,by dsimp only;omega,by dsimp only;omega,by dsimp only;omega,i4,fun i hi' hin=> ?_⟩
      dsimp only at hi'
      cases hbi:bey le left key (f i) with
      | false=>rfl
      | true=>rw[mono _ i hi' hin hbi] at hbm;cases hbm
   ·rintro⟨r,lo,hi⟩ st' ⟨rfl,rfl,i1,i2,i3,i4,i5⟩
    dsimp only at i1 i2 i3 i4 i5 ⊢
    exact⟨rfl,rfl,i2,fun i hi'=>i4 i (by omega),i5⟩
   ·rintro⟨r,lo,hi⟩ st' ⟨rfl,rfl,i1,i2,i3⟩
    dsimp only at i1 i2 i3 ⊢
    exact wpS_pure (h hi i1 i2 i3)
end
section
variable {le:Keyed->Keyed->Prop} {a b out:Array Keyed} {ia ib k:Nat}
def Fin2 (le:Keyed->Keyed->Prop) (a b r:Array Keyed):Prop:=r.toList.Perm (a.toList++b.toList)/\r.toList.Pairwise le
structure Lw (le:Keyed->Keyed->Prop) (a b out:Array Keyed) (ia ib:Nat):Prop where
 perm:(out.toList++(a.toList.drop ia++b.toList.drop ib)).Perm (a.toList++b.toList)
 srt:out.toList.Pairwise le
 up:∀x,x∈out.toList->∀y,y∈a.toList.drop ia++b.toList.drop ib->le x y
theorem Lw.size (h:Lw le a b out ia ib):out.size+((a.size-ia)+(b.size-ib))=a.size+b.size:=by
 have:=h.perm.length_eq
 simpa using this
theorem jUy {arr:Array Keyed} {i j:Nat}:(arr.extract i j).toList=(arr.toList.drop i).take (j-i):=by simp[List.extract]
theorem qKy (h:k<=a.size):(a.extract ia (ia+k)).toList=(a.toList.drop ia).take k:=by rw[jUy];congr 1;omega
theorem kJk:(a.extract ia).toList=a.toList.drop ia:=by
 rw[jUy]
 (exact List.take_of_length_le (by simp))
theorem Lw.takeA (h:Lw le a b out ia ib) (sa:a.toList.Pairwise le) {o:Array Keyed} (ho:o.toList=out.toList++(a.toList.drop ia).take k) (hx:∀x,x∈(a.toList.drop ia).take k->∀y,y∈b.toList.drop ib->le x y):Lw le a b o (ia+k) ib:=by
 have e:a.toList.drop ia=(a.toList.drop ia).take k++a.toList.drop (ia+k):=by rw[<-List.drop_drop];exact (List.take_append_drop k _).symm
 have sd:(a.toList.drop ia).Pairwise le:=sa.sublist (List.drop_sublist ..)
 have up:=h.up
 have perm:=h.perm
 rw[e] at sd up perm
 obtain⟨s1,s2,s3⟩:=List.pairwise_append.mp sd
 refine⟨?_,?_,?_⟩
 ·rw[ho,List.append_assoc,<-List.append_assoc _ _ (b.toList.drop ib)];exact perm
 ·rw[ho]
  exact List.pairwise_append.mpr ⟨h.srt,s1,fun x hx' y hy=>up x hx' y (List.mem_append_left _ (List.mem_append_left _ hy))⟩
 ·intro x hx' y hy
  rw[ho] at hx'
  rcases (List.mem_append.mp hx') with z | z
  ·refine up x z y ?_
   rcases (List.mem_append.mp hy) with w | w
   ·exact List.mem_append_left _ (List.mem_append_right _ w)
   ·exact List.mem_append_right _ w
  ·rcases (List.mem_append.mp hy) with w | w
   ·exact s3 x z y w
   ·exact hx x z y w
theorem Lw.takeB (h:Lw le a b out ia ib) (sb:b.toList.Pairwise le) {o:Array Keyed} (ho:o.toList=out.toList++(b.toList.drop ib).take k) (hx:∀x,x∈(b.toList.drop ib).take k->∀y,y∈a.toList.drop ia->le x y):Lw le a b o ia (ib+k):=by
 have e:b.toList.drop ib=(b.toList.drop ib).take k++b.toList.drop (ib+k):=by rw[<-List.drop_drop];exact (List.take_append_drop k _).symm
 have sd:(b.toList.drop ib).Pairwise le:=sb.sublist (List.drop_sublist ..)
 have up:=h.up
 have perm:=h.perm
 rw[e] at sd up perm
 obtain⟨s1,s2,s3⟩:=List.pairwise_append.mp sd
 refine⟨?_,?_,?_⟩
 ·rw[ho,List.append_assoc]
  refine List.Perm.trans (List.Perm.append_left _ ?_) perm
  (rw[<-List.append_assoc,<-List.append_assoc])
  (exact List.Perm.append_right _ List.perm_append_comm)
 ·rw[ho]
  exact List.pairwise_append.mpr ⟨h.srt,s1,fun x hx' y hy=>up x hx' y (List.mem_append_right _ (List.mem_append_left _ hy))⟩
 ·intro x hx' y hy
  rw[ho] at hx'
  rcases (List.mem_append.mp hx') with z | z
  ·refine up x z y ?_
   rcases (List.mem_append.mp hy) with w | w
   ·exact List.mem_append_left _ w
   ·exact List.mem_append_right _ (List.mem_append_right _ w)
  ·rcases (List.mem_append.mp hy) with w | w
   ·exact hx x z y w
   ·exact s3 x z y w
theorem jUa {arr:Array Keyed} {i:Nat} {x:Keyed} (h:arr[i]? =some x):arr.toList.drop i=x::arr.toList.drop (i+1):=by
 have hl:arr.toList[i]? =some x:=by rw[Array.getElem?_toList];exact h
 obtain⟨h1,h2⟩:=List.getElem?_eq_some_iff.mp hl
 rw[List.drop_eq_getElem_cons h1,h2]
theorem Lw.pushA (h:Lw le a b out ia ib) (sa:a.toList.Pairwise le) {x:Keyed} (hi:a[ia]? =some x) (hx:∀y,y∈b.toList.drop ib->le x y):Lw le a b (out.push x) (ia+1) ib:=by
 have e:(a.toList.drop ia).take 1=[x]:=by rw[jUa hi];rfl
 refine h.takeA sa (k:=1) (by rw[e];simp) fun z hz y hy=> ?_
 rw[e,List.mem_singleton] at hz
 rw[hz];exact hx y hy
theorem Lw.pushB (h:Lw le a b out ia ib) (sb:b.toList.Pairwise le) {x:Keyed} (hi:b[ib]? =some x) (hx:∀y,y∈a.toList.drop ia->le x y):Lw le a b (out.push x) ia (ib+1):=by
 have e:(b.toList.drop ib).take 1=[x]:=by rw[jUa hi];rfl
 refine h.takeB sb (k:=1) (by rw[e];simp) fun z hz y hy=> ?_
 rw[e,List.mem_singleton] at hz
 rw[hz];exact hx y hy
theorem Lw.done (h:Lw le a b out ia ib) (sa:a.toList.Pairwise le) (sb:b.toList.Pairwise le) (hi:ib=b.size\/ia=a.size):Fin2 le a b (out++a.extract ia++b.extract ib):=by
 have e:(out++a.extract ia++b.extract ib).toList=out.toList++(a.toList.drop ia++b.toList.drop ib):=by rw[Array.toList_append,Array.toList_append,kJk,kJk,List.append_assoc]
 unfold Fin2
 rw[e]
 refine⟨h.perm,List.pairwise_append.mpr ⟨h.srt,?_,h.up⟩⟩
 refine List.pairwise_append.mpr ⟨sa.sublist (List.drop_sublist ..),sb.sublist (List.drop_sublist ..),fun x hx y hy=> ?_⟩
 rcases hi with z | z
 ·rw[z,List.drop_of_length_le (by simp)] at hy;cases hy
 ·rw[z,List.drop_of_length_le (by simp)] at hx;cases hx
theorem Lw.lastA (h:Lw le a b out ia ib) (sa:a.toList.Pairwise le) (sb:b.toList.Pairwise le) (hi:ia+1=a.size) (hl:∀x,a[ia]? =some x->∀y,y∈b.toList->le y x):Fin2 le a b (out++b.extract ib++a.extract ia):=by
 have e:(out++b.extract ib++a.extract ia).toList=out.toList++(b.toList.drop ib++a.toList.drop ia):=by rw[Array.toList_append,Array.toList_append,kJk,kJk,List.append_assoc]
 unfold Fin2
 rw[e]
 have hx:a[ia]? =some a[ia]:=Array.getElem?_eq_getElem (by omega)
 have ed:a.toList.drop ia=[a[ia]]:=by rw[jUa hx,List.drop_of_length_le (by simp;omega)]
 refine⟨(List.Perm.append_left _ List.perm_append_comm).trans h.perm,List.pairwise_append.mpr ⟨h.srt,?_,fun x hx' y hy=>h.up x hx' y ?_⟩⟩
 ·refine List.pairwise_append.mpr ⟨sb.sublist (List.drop_sublist ..),sa.sublist (List.drop_sublist ..),fun x hx' y hy=> ?_⟩
  rw[ed,List.mem_singleton] at hy
  rw[hy]
  exact hl _ hx x (List.mem_of_mem_drop hx')
 ·rcases (List.mem_append.mp hy) with w | w
  ·exact List.mem_append_right _ w
  ·exact List.mem_append_left _ w
end
section
variable {M:Model} {A:Around} {E:Value->Shared->Prop} {s:Shared} {κ:SortKind} {mem:Keyed->Prop} {le:Keyed->Keyed->Prop} [∀x y,Decidable (le x y)]
abbrev jKc (st:SortSt) (g:Nat):SortSt:=SortSt.mk' (kindOf st) (arrOf st) (pendingOf st) g (failedOf st)
theorem jZ9 {l:List Keyed} {i j:Nat} {x y:Keyed} (h:l.Pairwise le) (hi:l[i]? =some x) (hij:i<j) (hj:l[j]? =some y):le x y:=by
 obtain⟨a1,a2⟩:=List.getElem?_eq_some_iff.mp hi
 obtain⟨b1,b2⟩:=List.getElem?_eq_some_iff.mp hj
 have:=List.pairwise_iff_getElem.mp h i j a1 b1 hij
 rwa [a2,b2] at this
theorem jV9 (H:Asks M A s κ mem le) {arr:Array Keyed} {i:Nat} {x y:Keyed} (hs:arr.toList.Pairwise le) (hm:∀x,x∈arr.toList->mem x) (hx:arr[i]? =some x) (hy:mem y) (h:le y x):∀z,z∈arr.toList.drop i->le y z:=by
 intro z hz
 rw[jUa hx] at hz
 rcases (List.mem_cons.mp hz) with rfl | hz
 ·exact h
 ·have hxl:x∈arr.toList:=by rw[Array.mem_toList_iff];exact Array.mem_of_getElem? hx
  have hzl:z∈arr.toList:=List.mem_of_mem_drop hz
  have hd:(arr.toList.drop i).Pairwise le:=hs.sublist (List.drop_sublist ..)
  rw[jUa hx] at hd
  exact H.tr _ _ _ hy (hm x hxl) (hm z hzl) h (List.rel_of_pairwise_cons hd hz)
theorem jJ2 {arr:Array Keyed} {i:Nat} {x:Keyed} (hx:arr[i]? =some x):x∈arr.toList:=by rw[Array.mem_toList_iff];exact Array.mem_of_getElem? hx
theorem jU3 {arr:Array Keyed} {i:Nat} (h:i<arr.size):∃x,arr[i]? =some x:=⟨arr[i],Array.getElem?_eq_getElem h⟩
theorem kQv {arr:Array Keyed} {i k:Nat} {x:Keyed} (h:x∈(arr.toList.drop i).take k):∃j,j<k/\arr[i+j]? =some x:=by
 obtain⟨j,hj⟩:=List.getElem?_of_mem h
 rw[List.getElem?_take] at hj
 split at hj
 ·rename_i hl
  rw[List.getElem?_drop,Array.getElem?_toList] at hj
  exact⟨j,hl,hj⟩
 ·cases hj
theorem jJs {α:Type} {m n:Nat} {p q:StateT SortSt Sem α} {Q:α->SortSt->Prop} {st:SortSt} (h1:m=n->wpS M A E s p Q st) (h2:¬ m=n->wpS M A E s q Q st):wpS M A E s (if (m == n)=true then p else q) Q st:=by
 by_cases c:m=n
 ·rw[if_pos (by simpa using c)];exact h1 c
 ·rw[if_neg (by simpa using c)];exact h2 c
theorem qUd {α:Type} {c:Prop} [Decidable c] {F:Nat->StateT SortSt Sem α} {x y:Nat} {p q:StateT SortSt Sem α} {Q:α->SortSt->Prop} {st:SortSt} (h2:q=F y) (h1:p=F x) (h:∀z,wpS M A E s (F z) Q st):wpS M A E s (if c then p else q) Q st:=by
 split
 ·rw[h1];exact h x
 ·rw[h2];exact h y
theorem qKu {α γ δ:Type} {c:Prop} [Decidable c] {F:γ->δ->StateT SortSt Sem α} {p q:StateT SortSt Sem α} {Q:α->SortSt->Prop} {st:SortSt} (y1:γ) (y2:δ) (h2:q=F y1 y2) (R:γ->δ->Prop) (hn:¬ c->R y1 y2) (hp:c->(∀z1 z2,R z1 z2->wpS M A E s (F z1 z2) Q st)->wpS M A E s p Q st) (key:∀z1 z2,R z1 z2->wpS M A E s (F z1 z2) Q st):wpS M A E s (if c then p else q) Q st:=by
 by_cases h:c
 ·rw[if_pos h];exact hp h key
 ·rw[if_neg h,h2];exact key y1 y2 (hn h)
abbrev kd:Keyed:=(Value.none,Value.none)
theorem at_d {a:Array Keyed} {ja:Nat} (i:Nat) (hi:i<a.size-ja):a[ja+i]? =some (a.getD (ja+i) kd):=by simp[Array.getD,show ja+i<a.size by omega]
theorem srt_d (H:Asks M A s κ mem le) {a:Array Keyed} {ja:Nat} (sa:a.toList.Pairwise le) (ma:∀x,x∈a.toList->mem x) (i j:Nat) (hij:i<=j) (hj:j<a.size-ja):le (a.getD (ja+i) kd) (a.getD (ja+j) kd):=by
 have h1:=at_d (a:=a) (ja:=ja) i (by omega)
 have h2:=at_d (a:=a) (ja:=ja) j hj
 rcases Nat.lt_or_eq_of_le hij with q | rfl
 ·exact jZ9 sa (i:=ja+i) (j:=ja+j) (by rw[Array.getElem?_toList];exact h1) (by omega) (by rw[Array.getElem?_toList];exact h2)
 ·exact (H.tot _ _ (ma _ (jJ2 h1)) (ma _ (jJ2 h1))).elim id id
variable {a b:Array Keyed}
theorem galA (H:Asks M A s κ mem le) {ja jb k:Nat} {y:Keyed} (sa:a.toList.Pairwise le) (ma:∀x,x∈a.toList->mem x) (sb:b.toList.Pairwise le) (mb:∀x,x∈b.toList->mem x) (hy:b[jb]? =some y) (hk1:k<=a.size-ja) (hk2:∀i,i<k->bey le false y (a.getD (ja+i) kd)=true) (hk3:∀i,k<=i->i<a.size-ja->bey le false y (a.getD (ja+i) kd)=false):
  (∀x,x∈(a.toList.drop ja).take k->∀z,z∈b.toList.drop jb->le x z)/\(ja+k<a.size->∀z,z∈a.toList.drop (ja+k)->le y z):=by
 have my:=mb y (jJ2 hy)
 simp only[bey,Bool.false_eq_true,if_false,decide_eq_true_eq,decide_eq_false_iff_not] at hk2 hk3
 refine⟨fun x hx z hz=> ?_,fun hlt=> ?_⟩
 ·obtain⟨j,hj,hxj⟩:=kQv hx
  have e:=at_d (a:=a) (ja:=ja) j (by omega)
  rw[hxj] at e
  have hle:=hk2 j hj
  rw[<-Option.some.inj e] at hle
  exact jV9 H sb mb hy (ma x (jJ2 hxj)) hle z hz
 ·have e:=at_d (a:=a) (ja:=ja) k (by omega)
  have hm:=ma _ (jJ2 e)
  exact jV9 H sa ma e my ((H.tot _ _ hm my).resolve_left (hk3 k (Nat.le_refl _) (by omega)))
theorem galB (H:Asks M A s κ mem le) {ja jb k:Nat} {x:Keyed} (sa:a.toList.Pairwise le) (ma:∀x,x∈a.toList->mem x) (sb:b.toList.Pairwise le) (mb:∀x,x∈b.toList->mem x) (hx:a[ja]? =some x) (hk1:k<=b.size-jb) (hk2:∀i,i<k->bey le true x (b.getD (jb+i) kd)=true) (hk3:∀i,k<=i->i<b.size-jb->bey le true x (b.getD (jb+i) kd)=false):
  (∀y,y∈(b.toList.drop jb).take k->∀z,z∈a.toList.drop ja->le y z)/\(jb+k<b.size->∀z,z∈b.toList.drop (jb+k)->le x z):=by
 have mx:=ma x (jJ2 hx)
 simp only[bey,if_true,Bool.not_eq_true',decide_eq_false_iff_not,Bool.not_eq_false',decide_eq_true_eq] at hk2 hk3
 refine⟨fun y hy z hz=> ?_,fun hlt=> ?_⟩
 ·obtain⟨j,hj,hyj⟩:=kQv hy
  have e:=at_d (a:=b) (ja:=jb) j (by omega)
  rw[hyj] at e
  have hle:=hk2 j hj
  rw[<-Option.some.inj e] at hle
  have my:=mb y (jJ2 hyj)
  exact jV9 H sa ma hx my ((H.tot _ _ mx my).resolve_left hle) z hz
 ·have e:=at_d (a:=b) (ja:=jb) k (by omega)
  exact jV9 H sb mb e mx (hk3 k (Nat.le_refl _) (by omega))
theorem kVi {st:SortSt} {Q:Array Keyed->SortSt->Prop} (H:Asks M A s κ mem le) (hk:kindOf st=κ) (hA:1<=a.size) (hB:1<=b.size) (sa:a.toList.Pairwise le) (sb:b.toList.Pairwise le) (ma:∀x,x∈a.toList->mem x) (mb:∀x,x∈b.toList->mem x)
  (hf:∀x,b[0]? =some x->∀y,y∈a.toList->le x y) (hl:∀x,a[a.size-1]? =some x->∀y,y∈b.toList->le y x) (h:∀r g,Fin2 le a b r->Q r (jKc st g)):
  wpS M A E s (qJo a b) Q st:=by
 obtain⟨x0,hb0⟩:=jU3 (arr:=b) (i:=0) (by omega)
 have hl':∀i,i+1=a.size->∀x,a[i]? =some x->∀y,y∈b.toList->le y x:=fun i hi x hx=>hl x (by rw[show a.size-1=i by omega];exact hx)
 have L0:Lw le a b #[x0] 0 1:=by
  refine⟨?_,by simp,?_⟩
  ·rw[List.drop_zero]
   have:b.toList=x0::b.toList.drop 1:=by have:=jUa hb0;rwa [List.drop_zero] at this
   conv=>rhs;rw[this]
   show (x0::(a.toList++List.drop 1 b.toList)).Perm _
   exact List.perm_middle.symm
  ·intro x hx y hy
   simp at hx;subst hx
   rcases (List.mem_append.mp hy) with z | z
   ·exact hf x hb0 y (List.mem_of_mem_drop z)
   ·have hd:=sb
    have e:b.toList=x::b.toList.drop 1:=by have:=jUa hb0;rwa [List.drop_zero] at this
    rw[e] at hd
    exact List.rel_of_pairwise_cons hd z
 have fin0:∀r,Fin2 le a b r->Q r st:=fun r hr=>h r (gallopOf st) hr
 (refine wpS_bind (wpS_lift (wpAny_rule ⟨rfl,?_⟩)))
 refine wpS_bind (jJy hb0 ?_)
 dsimp only
 by_cases c1:1=b.size
 ·rw[if_pos (by simpa using c1)]
  exact wpS_pure (fin0 _ (L0.done sa sb (.inl c1)))
 rw[if_neg (by simpa using c1)]
 by_cases c2:0+1=a.size
 ·rw[if_pos (by simpa using c2)]
  exact wpS_pure (fin0 _ (L0.lastA sa sb c2 (hl' 0 c2)))
 rw[if_neg (by simpa using c2)]
 refine wpS_bind (wpS_get ?_)
 refine wpS_bind (wpS_mono (wpS_forRange (I:=fun i (c:Option (Array Keyed)×Array Keyed×Nat×Nat×Nat) st'=>(∃g,jKc st g=st')/\c.1=none/\Lw le a b c.2.1 c.2.2.1 c.2.2.2.1/\c.2.2.1+1<a.size/\c.2.2.2.1<b.size/\i+1<=c.2.1.size)
  (Q:=fun (c:Option (Array Keyed)×Array Keyed×Nat×Nat×Nat) st'=>(∃g,jKc st g=st')/\∃r,c.1=some r/\Fin2 le a b r) ?_ ?_ ⟨⟨_,rfl⟩,rfl,L0,by dsimp only;omega,by dsimp only;omega,by simp⟩) ?_)
 ·rintro i ⟨r,out,ia,ib,mg⟩ st' _ hi ⟨⟨g,rfl⟩,rfl,L,ha,hb,hsz⟩
  dsimp only at L ha hb hsz ⊢
  refine wpS_bind (wpS_mono (wpS_forRange (I:=fun i1 (c:Option (Array Keyed)×Array Keyed×Nat×Nat×Nat×Nat) st'=>jKc st g=st'/\c.1=none/\Lw le a b c.2.1 c.2.2.1 c.2.2.2.1/\c.2.2.1+1<a.size/\c.2.2.2.1<b.size/\out.size+i1<=c.2.1.size)
   (Q:=fun (c:Option (Array Keyed)×Array Keyed×Nat×Nat×Nat×Nat) st'=>jKc st g=st'/\((∃r,c.1=some r/\Fin2 le a b r)\/(c.1=none/\Lw le a b c.2.1 c.2.2.1 c.2.2.2.1/\c.2.2.1+1<a.size/\c.2.2.2.1<b.size/\out.size+1<=c.2.1.size))) ?_ ?_ ⟨rfl,rfl,L,ha,hb,Nat.le_refl _⟩) ?_)
  ·rintro i1 ⟨r,out1,ia1,ib1,ac,bc⟩ st' _ hi1 ⟨rfl,rfl,L1,ha1,hb1,hsz1⟩
   dsimp only at L1 ha1 hb1 hsz1 ⊢
   obtain⟨y,hy⟩:=jU3 hb1
   obtain⟨x,hx⟩:=jU3 (arr:=a) (i:=ia1) (by omega)
   have my:=mb y (jJ2 hy)
   have mx:=ma x (jJ2 hx)
   refine wpS_bind (jJy hy (wpS_bind (jJy hx (wpS_bind (kX6 (st:=jKc st g) H my mx hk ?_)))))
   by_cases w:le x y
   ·rw[decide_eq_true w]
    dsimp only
    rw[if_neg (by decide)]
    refine wpS_bind (jJy hx ?_)
    have L2:=L1.pushA sa hx (jV9 H sb mb hy mx w)
    by_cases c3:ia1+1+1=a.size
    ·rw[if_pos (by simpa using c3)]
     exact wpS_pure ⟨rfl,.inl ⟨_,rfl,L2.lastA sa sb c3 (hl' _ c3)⟩⟩
    ·rw[if_neg (by simpa using c3)]
     by_cases c4:ac+1>=mg
     ·rw[if_pos c4]
      exact wpS_pure ⟨rfl,.inr ⟨rfl,L2,by dsimp only;omega,hb1,by simp;omega⟩⟩
     ·rw[if_neg c4]
      exact wpS_pure ⟨rfl,rfl,L2,by dsimp only;omega,hb1,by simp;omega⟩
   ·rw[decide_eq_false w]
    dsimp only
    (rw[if_pos (show (!false)=true from rfl)])
    refine wpS_bind (jJy hy ?_)
    have w':le y x:=(H.tot x y mx my).resolve_left w
    have L2:=L1.pushB sb hy (jV9 H sa ma hx my w')
    by_cases c3:ib1+1=b.size
    ·rw[if_pos (by simpa using c3)]
     exact wpS_pure ⟨rfl,.inl ⟨_,rfl,L2.done sa sb (.inl c3)⟩⟩
    ·rw[if_neg (by simpa using c3)]
     by_cases c4:bc+1>=mg
     ·rw[if_pos c4]
      exact wpS_pure ⟨rfl,.inr ⟨rfl,L2,ha1,by dsimp only;omega,by simp;omega⟩⟩
     ·rw[if_neg c4]
      exact wpS_pure ⟨rfl,rfl,L2,ha1,by dsimp only;omega,by simp;omega⟩
  ·rintro⟨r,out1,ia1,ib1,ac,bc⟩ st' ⟨rfl,rfl,L1,ha1,hb1,hsz1⟩
   dsimp only at L1 ha1 hb1 hsz1 ⊢
   exact⟨rfl,.inr ⟨rfl,L1,ha1,hb1,by omega⟩⟩
  ·rintro⟨r,out1,ia1,ib1,ac,bc⟩ st' ⟨rfl,⟨r',rfl,fr⟩ | ⟨rfl,L1,ha1,hb1,hsz1⟩⟩
   ·dsimp only
    exact wpS_pure ⟨⟨g,rfl⟩,r',rfl,fr⟩
   dsimp only at L1 ha1 hb1 hsz1 ⊢
   (refine wpS_bind (wpS_lift (wpAny_rule ⟨rfl,?_⟩)))
   refine wpS_bind (wpS_mono (wpS_forRange (I:=fun _ (c:Option (Array Keyed)×Array Keyed×Nat×Nat×Nat×Nat×Nat) st'=>(∃g,jKc st g=st')/\c.1=none/\Lw le a b c.2.1 c.2.2.1 c.2.2.2.1/\c.2.2.1+1<a.size/\c.2.2.2.1<b.size/\out.size+1<=c.2.1.size)
    (Q:=fun (c:Option (Array Keyed)×Array Keyed×Nat×Nat×Nat×Nat×Nat) st'=>(∃g,jKc st g=st')/\((∃r,c.1=some r/\Fin2 le a b r)\/(c.1=none/\Lw le a b c.2.1 c.2.2.1 c.2.2.2.1/\c.2.2.1+1<a.size/\c.2.2.2.1<b.size/\out.size+1<=c.2.1.size))) ?_ ?_ ⟨⟨g,rfl⟩,rfl,L1,ha1,hb1,hsz1⟩) ?_)
   ·clear L1 ha1 hb1 hsz1
    rintro i1 ⟨r,o,ja,jb,mg1,ac1,bc1⟩ st' _ hi1 ⟨⟨g1,rfl⟩,rfl,L1,ha1,hb1,hsz1⟩
    dsimp only at L1 ha1 hb1 hsz1 ⊢
    obtain⟨y,hy⟩:=jU3 hb1
    have my:=mb y (jJ2 hy)
    apply qUd (x:=mg1-1) (y:=mg1)
    case h2=>rfl
    case h1=>rfl
    intro mg2
    refine wpS_bind (wpS_modify ?_)
    refine wpS_bind (jJy hy ?_)
    refine wpS_bind (jQz (st:=jKc st _) (f:=fun i=>a.getD (ja+i) kd) H hk my at_d (fun i hi=>ma _ (jJ2 (at_d i hi))) (srt_d H sa ma) (by omega) fun k hk1 hk2 hk3=> ?_)
    obtain⟨takeK,beyK⟩:=galA H sa ma sb mb hy hk1 hk2 hk3
    clear hk2 hk3
    dsimp only
    apply qKu o ja (R:=fun o2 ja2=>Lw le a b o2 ja2 jb/\ja2+1<a.size/\out.size+1<=o2.size/\∀z,z∈a.toList.drop ja2->le y z)
    case h2=>rfl
    ·intro ck
     obtain rfl:k=0:=by omega
     have bk:=beyK (by omega)
     rw[Nat.add_zero] at bk
     exact⟨L1,ha1,hsz1,bk⟩
    ·intro ck key
     have L2:Lw le a b (o++a.extract ja (ja+k)) (ja+k) jb:=L1.takeA sa (by rw[Array.toList_append,qKy (by omega)]) takeK
     refine jJs (fun d1=> ?_) fun d1=> ?_
     ·exact wpS_pure ⟨⟨_,rfl⟩,.inl ⟨_,rfl,L2.lastA sa sb d1 (hl' _ d1)⟩⟩
     refine jJs (fun d2=> ?_) fun d2=> ?_
     ·exact wpS_pure ⟨⟨_,rfl⟩,.inl ⟨_,rfl,L2.done sa sb (.inr d2)⟩⟩
     exact key _ _ ⟨L2,by omega,by rw[Array.size_append];omega,beyK (by omega)⟩
    intro o2 ja2 hR
    obtain⟨L2,hja,hos,bk⟩:=hR
    clear L1 takeK beyK hk1 ha1 hsz1
    refine wpS_bind (jJy hy ?_)
    have L3:=L2.pushB sb hy bk
    refine jJs (fun d3=> ?_) fun d3=> ?_
    ·exact wpS_pure ⟨⟨_,rfl⟩,.inl ⟨_,rfl,L3.done sa sb (.inl d3)⟩⟩
    obtain⟨x,hx⟩:=jU3 (Nat.lt_of_succ_lt hja)
    have mx:=ma x (jJ2 hx)
    have hps:out.size+1<=(o2.push y).size:=by rw[Array.size_push];omega
    have hjb:jb+1<b.size:=by omega
    clear L2 bk hos d3 hb1
    refine wpS_bind (jJy hx ?_)
    generalize o2.push y=o3 at *
    generalize jb+1=jb1 at *
    refine wpS_bind (jQz (st:=jKc st _) (f:=fun i=>b.getD (jb1+i) kd) H hk mx at_d (fun i hi=>mb _ (jJ2 (at_d i hi))) (srt_d H sb mb) (by omega) fun k2 e1 e2 e3=> ?_)
    obtain⟨takeK,beyK⟩:=galB H sa ma sb mb hx e1 e2 e3
    clear e2 e3
    dsimp only
    apply qKu o3 jb1 (R:=fun o4 jb2=>Lw le a b o4 ja2 jb2/\jb2<b.size/\out.size+1<=o4.size/\∀z,z∈b.toList.drop jb2->le x z)
    case h2=>rfl
    ·intro ck
     obtain rfl:k2=0:=by omega
     have bk:=beyK (by omega)
     rw[Nat.add_zero] at bk
     exact⟨L3,hjb,hps,bk⟩
    ·intro ck key
     have L4:=L3.takeB sb (k:=k2) (Array.toList_append.trans (congrArg _ (qKy (ia:=jb1) (a:=b) (by omega)))) takeK
     refine jJs (fun d4=> ?_) fun d4=> ?_
     ·exact wpS_pure ⟨⟨_,rfl⟩,.inl ⟨_,rfl,L4.done sa sb (.inl d4)⟩⟩
     exact key _ _ ⟨L4,by omega,by rw[Array.size_append];omega,beyK (by omega)⟩
    intro o4 jb2 hR
    obtain⟨L4,hjb2,hos,bk⟩:=hR
    clear L3 takeK beyK e1 hjb hps
    have L5:=L4.pushA sa hx bk
    refine wpS_bind (jJy hx ?_)
    refine jJs (fun d5=> ?_) fun d5=> ?_
    ·exact wpS_pure ⟨⟨_,rfl⟩,.inl ⟨_,rfl,L5.lastA sa sb d5 (hl' _ d5)⟩⟩
    have g5:ja2+1+1<a.size:=by omega
    have g6:out.size+1<=(o4.push x).size:=by rw[Array.size_push];omega
    split
    ·exact wpS_pure ⟨⟨_,rfl⟩,.inr ⟨rfl,L5,g5,hjb2,g6⟩⟩
    ·exact wpS_pure ⟨⟨_,rfl⟩,rfl,L5,g5,hjb2,g6⟩
   ·rintro⟨r,o,ja,jb,mg1,ac1,bc1⟩ st' ⟨⟨g1,rfl⟩,rfl,L1,ha1,hb1,hsz1⟩
    dsimp only at L1 ha1 hb1 hsz1 ⊢
    exact⟨⟨g1,rfl⟩,.inr ⟨rfl,L1,ha1,hb1,hsz1⟩⟩
   ·rintro⟨r,o,ja,jb,mg1,ac1,bc1⟩ st' ⟨⟨g1,rfl⟩,⟨r',rfl,fr⟩ | ⟨rfl,L1,ha1,hb1,hsz1⟩⟩
    ·dsimp only
     exact wpS_pure ⟨⟨g1,rfl⟩,r',rfl,fr⟩
    ·dsimp only at L1 ha1 hb1 hsz1 ⊢
     refine wpS_bind (wpS_modify ?_)
     exact wpS_pure ⟨⟨_,rfl⟩,rfl,L1,ha1,hb1,by dsimp only;omega⟩
 ·rintro⟨r,out,ia,ib,mg⟩ st' ⟨⟨g,rfl⟩,rfl,L,ha,hb,hsz⟩
  have:=L.size
  dsimp only at this hsz ha hb
  exfalso
  rw[Nat.zero_max] at hsz
  omega
 ·rintro⟨r,out,ia,ib,mg⟩ st' ⟨⟨g,rfl⟩,r',rfl,fr⟩
  dsimp only
  exact wpS_pure (h _ _ fr)
end
section
variable {le:Keyed->Keyed->Prop} {a b out:Array Keyed} {na nb k:Nat}
structure Hw (le:Keyed->Keyed->Prop) (a b out:Array Keyed) (na nb:Nat):Prop where
 perm:((a.toList.take na++b.toList.take nb)++out.toList.reverse).Perm (a.toList++b.toList)
 srt:out.toList.reverse.Pairwise le
 up:∀x,x∈a.toList.take na++b.toList.take nb->∀y,y∈out.toList->le x y
theorem Hw.size (h:Hw le a b out na nb) (h1:na<=a.size) (h2:nb<=b.size):na+nb+out.size=a.size+b.size:=by
 have:=h.perm.length_eq
 simp at this
 omega
theorem jZg {l:List Keyed} (h:k<=na):l.take na=l.take k++(l.take na).drop k:=by
 conv=>lhs;rw[<-List.take_append_drop k (l.take na)]
 rw[List.take_take,Nat.min_eq_left h]
theorem Hw.takeA (h:Hw le a b out na nb) (sa:a.toList.Pairwise le) (hk:k<=na) {o:Array Keyed} (ho:o.toList.reverse=(a.toList.take na).drop k++out.toList.reverse) (hx:∀x,x∈b.toList.take nb->∀y,y∈(a.toList.take na).drop k->le x y):Hw le a b o k nb:=by
 have sd:(a.toList.take na).Pairwise le:=sa.sublist (List.take_sublist ..)
 have up:=h.up
 have perm:=h.perm
 have e:=jZg (l:=a.toList) hk
 generalize hd:(a.toList.take na).drop k=d at *
 rw[e] at sd up perm
 obtain⟨s1,s2,s3⟩:=List.pairwise_append.mp sd
 have mo:∀y,y∈o.toList->y∈d\/y∈out.toList:=fun y hy=>by
  have:y∈o.toList.reverse:=List.mem_reverse.mpr hy
  rw[ho] at this
  exact (List.mem_append.mp this).imp id List.mem_reverse.mp
 refine⟨?_,?_,?_⟩
 ·rw[ho]
  refine List.Perm.trans ?_ perm
  rw[<-List.append_assoc,List.append_assoc,List.append_assoc,List.append_assoc,List.append_assoc]
  (refine List.Perm.append_left _ ?_)
  (rw[<-List.append_assoc,<-List.append_assoc])
  (exact List.Perm.append_right _ List.perm_append_comm)
 ·rw[ho]
  exact List.pairwise_append.mpr ⟨s2,h.srt,fun x hx' y hy=>up x (List.mem_append_left _ (List.mem_append_right _ hx')) y (List.mem_reverse.mp hy)⟩
 ·intro x hx' y hy
  rcases mo y hy with z | z
  ·rcases (List.mem_append.mp hx') with w | w
   ·exact s3 x w y z
   ·exact hx x w y z
  ·refine up x ?_ y z
   rcases (List.mem_append.mp hx') with w | w
   ·exact List.mem_append_left _ (List.mem_append_left _ w)
   ·exact List.mem_append_right _ w
theorem Hw.takeB (h:Hw le a b out na nb) (sb:b.toList.Pairwise le) (hk:k<=nb) {o:Array Keyed} (ho:o.toList.reverse=(b.toList.take nb).drop k++out.toList.reverse) (hx:∀x,x∈a.toList.take na->∀y,y∈(b.toList.take nb).drop k->le x y):Hw le a b o na k:=by
 have sd:(b.toList.take nb).Pairwise le:=sb.sublist (List.take_sublist ..)
 have up:=h.up
 have perm:=h.perm
 have e:=jZg (l:=b.toList) hk
 generalize hd:(b.toList.take nb).drop k=d at *
 rw[e] at sd up perm
 obtain⟨s1,s2,s3⟩:=List.pairwise_append.mp sd
 have mo:∀y,y∈o.toList->y∈d\/y∈out.toList:=fun y hy=>by
  have:y∈o.toList.reverse:=List.mem_reverse.mpr hy
  rw[ho] at this
  exact (List.mem_append.mp this).imp id List.mem_reverse.mp
 refine⟨?_,?_,?_⟩
 ·rw[ho]
  refine List.Perm.trans ?_ perm
  rw[<-List.append_assoc,List.append_assoc,List.append_assoc,List.append_assoc,List.append_assoc]
 ·rw[ho]
  exact List.pairwise_append.mpr ⟨s2,h.srt,fun x hx' y hy=>up x (List.mem_append_right _ (List.mem_append_right _ hx')) y (List.mem_reverse.mp hy)⟩
 ·intro x hx' y hy
  rcases mo y hy with z | z
  ·rcases (List.mem_append.mp hx') with w | w
   ·exact hx x w y z
   ·exact s3 x w y z
  ·refine up x ?_ y z
   rcases (List.mem_append.mp hx') with w | w
   ·exact List.mem_append_left _ w
   ·exact List.mem_append_right _ (List.mem_append_left _ w)
theorem jXu {arr:Array Keyed} {i:Nat} {x:Keyed} (h:arr[i]? =some x):(arr.toList.take (i+1)).drop i=[x]:=by
 have hl:arr.toList[i]? =some x:=by rw[Array.getElem?_toList];exact h
 obtain⟨h1,h2⟩:=List.getElem?_eq_some_iff.mp hl
 have hs:i<arr.size:=by simpa using h1
 rw[List.take_succ,hl,List.drop_append_of_le_length (by simp;omega),List.drop_of_length_le (by simp;omega)]
 rfl
theorem Hw.pushA (h:Hw le a b out (na+1) nb) (sa:a.toList.Pairwise le) {x:Keyed} (hi:a[na]? =some x) (hx:∀y,y∈b.toList.take nb->le y x):Hw le a b (out.push x) na nb:=by
 refine h.takeA sa (k:=na) (by omega) (by rw[jXu hi];simp) fun z hz y hy=> ?_
 rw[jXu hi,List.mem_singleton] at hy
 rw[hy];exact hx z hz
theorem Hw.pushB (h:Hw le a b out na (nb+1)) (sb:b.toList.Pairwise le) {x:Keyed} (hi:b[nb]? =some x) (hx:∀y,y∈a.toList.take na->le y x):Hw le a b (out.push x) na nb:=by
 refine h.takeB sb (k:=nb) (by omega) (by rw[jXu hi];simp) fun z hz y hy=> ?_
 rw[jXu hi,List.mem_singleton] at hy
 rw[hy];exact hx z hz
theorem jXv:(a.extract 0 na).toList=a.toList.take na:=by rw[jUy];simp
theorem Hw.done (h:Hw le a b out na nb) (sa:a.toList.Pairwise le) (sb:b.toList.Pairwise le) (hi:na=0\/nb=0):Fin2 le a b (a.extract 0 na++b.extract 0 nb++out.reverse):=by
 have e:(a.extract 0 na++b.extract 0 nb++out.reverse).toList=(a.toList.take na++b.toList.take nb)++out.toList.reverse:=by rw[Array.toList_append,Array.toList_append,jXv,jXv,Array.toList_reverse]
 unfold Fin2
 rw[e]
 refine⟨h.perm,List.pairwise_append.mpr ⟨?_,h.srt,fun x hx y hy=>h.up x hx y (List.mem_reverse.mp hy)⟩⟩
 refine List.pairwise_append.mpr ⟨sa.sublist (List.take_sublist ..),sb.sublist (List.take_sublist ..),fun x hx y hy=> ?_⟩
 rcases hi with z | z
 ·rw[z] at hx;cases hx
 ·rw[z] at hy;cases hy
theorem Hw.firstB (h:Hw le a b out na nb) (sa:a.toList.Pairwise le) (sb:b.toList.Pairwise le) (hi:nb=1) (hl:∀x,b[0]? =some x->∀y,y∈a.toList->le x y):Fin2 le a b (b.extract 0 nb++a.extract 0 na++out.reverse):=by
 have e:(b.extract 0 nb++a.extract 0 na++out.reverse).toList=(b.toList.take nb++a.toList.take na)++out.toList.reverse:=by rw[Array.toList_append,Array.toList_append,jXv,jXv,Array.toList_reverse]
 unfold Fin2
 rw[e]
 refine⟨(List.Perm.append_right _ List.perm_append_comm).trans h.perm,List.pairwise_append.mpr ⟨?_,h.srt,fun x hx y hy=>h.up x ?_ y (List.mem_reverse.mp hy)⟩⟩
 ·refine List.pairwise_append.mpr ⟨sb.sublist (List.take_sublist ..),sa.sublist (List.take_sublist ..),fun x hx y hy=> ?_⟩
  rw[hi] at hx
  (obtain⟨j,hj⟩:=List.getElem?_of_mem hx)
  rw[List.getElem?_take] at hj
  split at hj
  ·rename_i hlt
   obtain rfl:j=0:=by omega
   rw[Array.getElem?_toList] at hj
   exact hl x hj y (List.mem_of_mem_take hy)
  ·cases hj
 ·rcases (List.mem_append.mp hx) with w | w
  ·exact List.mem_append_right _ w
  ·exact List.mem_append_left _ w
end
section
variable {M:Model} {A:Around} {E:Value->Shared->Prop} {s:Shared} {κ:SortKind} {mem:Keyed->Prop} {le:Keyed->Keyed->Prop} [∀x y,Decidable (le x y)] {a b:Array Keyed}
theorem jZx (H:Asks M A s κ mem le) {arr:Array Keyed} {i:Nat} {x y:Keyed} (hs:arr.toList.Pairwise le) (hm:∀x,x∈arr.toList->mem x) (hx:arr[i]? =some x) (hy:mem y) (h:le x y):∀z,z∈arr.toList.take (i+1)->le z y:=by
 intro z hz
 have hzl:z∈arr.toList:=List.mem_of_mem_take hz
 obtain⟨j,hj⟩:=List.getElem?_of_mem hz
 rw[List.getElem?_take] at hj
 split at hj
 ·rename_i hlt
  rcases Nat.lt_or_eq_of_le (Nat.le_of_lt_succ hlt) with q | rfl
  ·exact H.tr _ _ _ (hm z hzl) (hm x (jJ2 hx)) hy (jZ9 hs hj q (by rw[Array.getElem?_toList];exact hx)) h
  ·rw[Array.getElem?_toList,hx] at hj;cases hj;exact h
 ·cases hj
theorem qK0 {arr:Array Keyed} {n k:Nat} {x:Keyed} (h:x∈(arr.toList.take n).drop k):∃j,k<=j/\j<n/\arr[j]? =some x:=by
 obtain⟨j,hj⟩:=List.getElem?_of_mem h
 rw[List.getElem?_drop,List.getElem?_take] at hj
 split at hj
 ·rename_i hl
  rw[Array.getElem?_toList] at hj
  exact⟨k+j,by omega,hl,hj⟩
 ·cases hj
theorem qKi {arr:Array Keyed} {n:Nat} {x:Keyed} (h:x∈arr.toList.take n):∃j,j<n/\arr[j]? =some x:=by
 obtain⟨j,hj⟩:=List.getElem?_of_mem h
 rw[List.getElem?_take] at hj
 split at hj
 ·rename_i hl
  rw[Array.getElem?_toList] at hj
  exact⟨j,hl,hj⟩
 ·cases hj
theorem at_e {a:Array Keyed} {n:Nat} (hn:n<=a.size) (i:Nat) (hi:i<n):a[0+i]? =some (a.getD i kd):=by rw[Nat.zero_add];simp[Array.getD,show i<a.size by omega]
theorem srt_e (H:Asks M A s κ mem le) {a:Array Keyed} {n:Nat} (hn:n<=a.size) (sa:a.toList.Pairwise le) (ma:∀x,x∈a.toList->mem x) (i j:Nat) (hij:i<=j) (hj:j<n):le (a.getD i kd) (a.getD j kd):=by
 have h1:=at_e hn i (by omega)
 have h2:=at_e hn j hj
 rw[Nat.zero_add] at h1 h2
 rcases Nat.lt_or_eq_of_le hij with q | rfl
 ·exact jZ9 sa (i:=i) (j:=j) (by rw[Array.getElem?_toList];exact h1) q (by rw[Array.getElem?_toList];exact h2)
 ·exact (H.tot _ _ (ma _ (jJ2 h1)) (ma _ (jJ2 h1))).elim id id
theorem galAh (H:Asks M A s κ mem le) {na nb k:Nat} {y:Keyed} (ma:∀x,x∈a.toList->mem x) (sb:b.toList.Pairwise le) (mb:∀x,x∈b.toList->mem x) (hna:na<=a.size) (hy:b[nb]? =some y) (hk1:k<=na) (hk2:∀i,i<k->bey le false y (a.getD i kd)=true) (hk3:∀i,k<=i->i<na->bey le false y (a.getD i kd)=false):
  (∀z,z∈b.toList.take (nb+1)->∀x,x∈(a.toList.take na).drop k->le z x)/\(∀z,z∈a.toList.take k->le z y):=by
 have my:=mb y (jJ2 hy)
 simp only[bey,Bool.false_eq_true,if_false,decide_eq_true_eq,decide_eq_false_iff_not] at hk2 hk3
 refine⟨fun z hz x hx=> ?_,fun z hz=> ?_⟩
 ·obtain⟨j,h1,h2,h3⟩:=qK0 hx
  have e:=at_e hna j h2
  rw[Nat.zero_add,h3] at e
  have hle:=hk3 j h1 h2
  rw[<-Option.some.inj e] at hle
  have mx:=ma x (jJ2 h3)
  exact jZx H sb mb hy mx ((H.tot _ _ mx my).resolve_left hle) z hz
 ·obtain⟨j,h1,h2⟩:=qKi hz
  have e:=at_e hna j (by omega)
  rw[Nat.zero_add,h2] at e
  have hle:=hk2 j h1
  rwa [<-Option.some.inj e] at hle
theorem galBh (H:Asks M A s κ mem le) {na nb k:Nat} {x:Keyed} (sa:a.toList.Pairwise le) (ma:∀x,x∈a.toList->mem x) (mb:∀x,x∈b.toList->mem x) (hnb:nb<=b.size) (hx:a[na]? =some x) (hk1:k<=nb) (hk2:∀i,i<k->bey le true x (b.getD i kd)=true) (hk3:∀i,k<=i->i<nb->bey le true x (b.getD i kd)=false):
  (∀z,z∈a.toList.take (na+1)->∀y,y∈(b.toList.take nb).drop k->le z y)/\(∀z,z∈b.toList.take k->le z x):=by
 have mx:=ma x (jJ2 hx)
 simp only[bey,if_true,Bool.not_eq_true',decide_eq_false_iff_not,Bool.not_eq_false',decide_eq_true_eq] at hk2 hk3
 refine⟨fun z hz y hy=> ?_,fun z hz=> ?_⟩
 ·obtain⟨j,h1,h2,h3⟩:=qK0 hy
  have e:=at_e hnb j h2
  rw[Nat.zero_add,h3] at e
  have hle:=hk3 j h1 h2
  rw[<-Option.some.inj e] at hle
  exact jZx H sa ma hx (mb y (jJ2 h3)) hle z hz
 ·obtain⟨j,h1,h2⟩:=qKi hz
  have e:=at_e hnb j (by omega)
  rw[Nat.zero_add,h2] at e
  have hle:=hk2 j h1
  rw[<-Option.some.inj e] at hle
  exact (H.tot _ _ mx (mb z (jJ2 h2))).resolve_left hle
theorem kXg {arr o:Array Keyed} {n k:Nat}:(o++(arr.extract k n).reverse).toList.reverse=(arr.toList.take n).drop k++o.toList.reverse:=by
 rw[Array.toList_append,List.reverse_append,Array.toList_reverse,List.reverse_reverse,jUy,List.drop_take]
theorem kVj {st:SortSt} {Q:Array Keyed->SortSt->Prop} (H:Asks M A s κ mem le) (hk:kindOf st=κ) (hA:1<=a.size) (hB:1<=b.size) (sa:a.toList.Pairwise le) (sb:b.toList.Pairwise le) (ma:∀x,x∈a.toList->mem x) (mb:∀x,x∈b.toList->mem x)
  (hf:∀x,b[0]? =some x->∀y,y∈a.toList->le x y) (hl:∀x,a[a.size-1]? =some x->∀y,y∈b.toList->le y x) (h:∀r g,Fin2 le a b r->Q r (jKc st g)):
  wpS M A E s (qJp a b) Q st:=by
 obtain⟨x0,hb0⟩:=jU3 (arr:=a) (i:=a.size-1) (by omega)
 have La:Hw le a b #[] (a.size-1+1) b.size:=by
  refine⟨?_,by simp,fun x _ y hy=> ?_⟩
  ·rw[List.take_of_length_le (by simp;omega),List.take_of_length_le (by simp)];simp
  ·simp at hy
 have L0:Hw le a b #[x0] (a.size-1) b.size:=La.pushA sa hb0 fun y hy=>hl x0 hb0 y (List.mem_of_mem_take hy)
 have fin0:∀r,Fin2 le a b r->Q r st:=fun r hr=>h r (gallopOf st) hr
 (refine wpS_bind (wpS_lift (wpAny_rule ⟨rfl,?_⟩)))
 refine wpS_bind (jJy hb0 ?_)
 dsimp only
 refine jJs (fun c1=> ?_) fun c1=> ?_
 ·exact wpS_pure (fin0 _ (L0.done sa sb (.inl c1)))
 refine jJs (fun c2=> ?_) fun c2=> ?_
 ·exact wpS_pure (fin0 _ (L0.firstB sa sb c2 hf))
 refine wpS_bind (wpS_get ?_)
 refine wpS_bind (wpS_mono (wpS_forRange (I:=fun i (c:Option (Array Keyed)×Nat×Nat×Array Keyed×Nat) st'=>(∃g,jKc st g=st')/\c.1=none/\Hw le a b c.2.2.2.1 c.2.1 c.2.2.1/\1<=c.2.1/\c.2.1<=a.size/\2<=c.2.2.1/\c.2.2.1<=b.size/\i+1<=c.2.2.2.1.size)
  (Q:=fun (c:Option (Array Keyed)×Nat×Nat×Array Keyed×Nat) st'=>(∃g,jKc st g=st')/\∃r,c.1=some r/\Fin2 le a b r) ?_ ?_ ⟨⟨_,rfl⟩,rfl,L0,by dsimp only;omega,by dsimp only;omega,by dsimp only;omega,by dsimp only;omega,by simp⟩) ?_)
 ·rintro i ⟨r,na,nb,out,mg⟩ st' _ hi ⟨⟨g,rfl⟩,rfl,L,ha,ha',hb,hb',hsz⟩
  dsimp only at L ha ha' hb hb' hsz ⊢
  refine wpS_bind (wpS_mono (wpS_forRange (I:=fun i1 (c:Option (Array Keyed)×Nat×Nat×Array Keyed×Nat×Nat) st'=>jKc st g=st'/\c.1=none/\Hw le a b c.2.2.2.1 c.2.1 c.2.2.1/\1<=c.2.1/\c.2.1<=a.size/\2<=c.2.2.1/\c.2.2.1<=b.size/\out.size+i1<=c.2.2.2.1.size)
   (Q:=fun (c:Option (Array Keyed)×Nat×Nat×Array Keyed×Nat×Nat) st'=>jKc st g=st'/\((∃r,c.1=some r/\Fin2 le a b r)\/(c.1=none/\Hw le a b c.2.2.2.1 c.2.1 c.2.2.1/\1<=c.2.1/\c.2.1<=a.size/\2<=c.2.2.1/\c.2.2.1<=b.size/\out.size+1<=c.2.2.2.1.size))) ?_ ?_ ⟨rfl,rfl,L,ha,ha',hb,hb',Nat.le_refl _⟩) ?_)
  ·rintro i1 ⟨r,n1,m1,out1,ac,bc⟩ st' _ hi1 ⟨rfl,rfl,L1,p1,p2,p3,p4,hsz1⟩
   dsimp only at L1 p1 p2 p3 p4 hsz1 ⊢
   obtain⟨n1,rfl⟩:∃k,n1=k+1:=⟨n1-1,by omega⟩
   obtain⟨m1,rfl⟩:∃k,m1=k+1:=⟨m1-1,by omega⟩
   simp only[Nat.add_sub_cancel]
   obtain⟨y,hy⟩:=jU3 (arr:=b) (i:=m1) (by omega)
   obtain⟨x,hx⟩:=jU3 (arr:=a) (i:=n1) (by omega)
   have my:=mb y (jJ2 hy)
   have mx:=ma x (jJ2 hx)
   refine wpS_bind (jJy hy (wpS_bind (jJy hx (wpS_bind (kX6 (st:=jKc st g) H my mx hk ?_)))))
   by_cases w:le x y
   ·rw[decide_eq_true w]
    dsimp only
    rw[if_neg (by decide)]
    refine wpS_bind (jJy hy ?_)
    have L2:=L1.pushB sb hy (jZx H sa ma hx my w)
    refine jJs (fun c3=> ?_) fun c3=> ?_
    ·exact wpS_pure ⟨rfl,.inl ⟨_,rfl,L2.firstB sa sb c3 hf⟩⟩
    ·split
     ·exact wpS_pure ⟨rfl,.inr ⟨rfl,L2,p1,p2,by dsimp only;omega,by dsimp only;omega,by simp;omega⟩⟩
     ·exact wpS_pure ⟨rfl,rfl,L2,p1,p2,by dsimp only;omega,by dsimp only;omega,by simp;omega⟩
   ·rw[decide_eq_false w]
    dsimp only
    (rw[if_pos (show (!false)=true from rfl)])
    refine wpS_bind (jJy hx ?_)
    have L2:=L1.pushA sa hx (jZx H sb mb hy mx ((H.tot x y mx my).resolve_left w))
    refine jJs (fun c3=> ?_) fun c3=> ?_
    ·exact wpS_pure ⟨rfl,.inl ⟨_,rfl,L2.done sa sb (.inl c3)⟩⟩
    ·split
     ·exact wpS_pure ⟨rfl,.inr ⟨rfl,L2,by dsimp only;omega,by dsimp only;omega,p3,p4,by simp;omega⟩⟩
     ·exact wpS_pure ⟨rfl,rfl,L2,by dsimp only;omega,by dsimp only;omega,p3,p4,by simp;omega⟩
  ·rintro⟨r,n1,m1,out1,ac,bc⟩ st' ⟨rfl,rfl,L1,p1,p2,p3,p4,hsz1⟩
   dsimp only at L1 p1 p2 p3 p4 hsz1 ⊢
   exact⟨rfl,.inr ⟨rfl,L1,p1,p2,p3,p4,by omega⟩⟩
  ·rintro⟨r,n1,m1,out1,ac,bc⟩ st' ⟨rfl,⟨r',rfl,fr⟩ | ⟨rfl,L1,p1,p2,p3,p4,hsz1⟩⟩
   ·dsimp only
    exact wpS_pure ⟨⟨g,rfl⟩,r',rfl,fr⟩
   dsimp only at L1 p1 p2 p3 p4 hsz1 ⊢
   (refine wpS_bind (wpS_lift (wpAny_rule ⟨rfl,?_⟩)))
   refine wpS_bind (wpS_mono (wpS_forRange (I:=fun _ (c:Option (Array Keyed)×Nat×Nat×Array Keyed×Nat×Nat×Nat) st'=>(∃g,jKc st g=st')/\c.1=none/\Hw le a b c.2.2.2.1 c.2.1 c.2.2.1/\1<=c.2.1/\c.2.1<=a.size/\2<=c.2.2.1/\c.2.2.1<=b.size/\out.size+1<=c.2.2.2.1.size)
    (Q:=fun (c:Option (Array Keyed)×Nat×Nat×Array Keyed×Nat×Nat×Nat) st'=>(∃g,jKc st g=st')/\((∃r,c.1=some r/\Fin2 le a b r)\/(c.1=none/\Hw le a b c.2.2.2.1 c.2.1 c.2.2.1/\1<=c.2.1/\c.2.1<=a.size/\2<=c.2.2.1/\c.2.2.1<=b.size/\out.size+1<=c.2.2.2.1.size))) ?_ ?_ ⟨⟨g,rfl⟩,rfl,L1,p1,p2,p3,p4,hsz1⟩) ?_)
   ·clear L1 p1 p2 p3 p4 hsz1
    rintro i1 ⟨r,ja,jb,o,mg1,ac1,bc1⟩ st' _ hi1 ⟨⟨g1,rfl⟩,rfl,L1,p1,p2,p3,p4,hsz1⟩
    dsimp only at L1 p1 p2 p3 p4 hsz1 ⊢
    obtain⟨jb,rfl⟩:∃k,jb=k+1:=⟨jb-1,by omega⟩
    simp only[Nat.add_sub_cancel]
    obtain⟨y,hy⟩:=jU3 (arr:=b) (i:=jb) (by omega)
    have my:=mb y (jJ2 hy)
    by_cases cg:mg1>1
    all_goals first | rw[if_pos cg] | rw[if_neg cg]
    all_goals refine wpS_bind (wpS_modify ?_)
    all_goals refine wpS_bind (jJy hy ?_)
    all_goals refine wpS_bind (jQz (st:=jKc st _) (f:=fun i=>a.getD i kd) H hk my (at_e p2) (fun i hi=>ma _ (jJ2 (at_e p2 i hi))) (srt_e H p2 sa ma) (by omega) fun k hk1 hk2 hk3=> ?_)
    all_goals obtain⟨takeK,beyK⟩:=galAh H ma sb mb p2 hy hk1 hk2 hk3
    all_goals dsimp only
    all_goals by_cases ck:ja-k>0
    all_goals first | rw[if_pos ck] | rw[if_neg ck]
    all_goals first
     | (have L2:Hw le a b (o++(a.extract k ja).reverse) k (jb+1):=L1.takeA sa hk1 kXg takeK
        refine jJs (fun d1=> ?_) fun d1=> ?_
        ·exact wpS_pure ⟨⟨_,rfl⟩,.inl ⟨_,rfl,L2.done sa sb (.inl d1)⟩⟩
        have q1:1<=k:=by omega
        have q2:k<=a.size:=by omega
        have hos:out.size+1<=(o++(a.extract k ja).reverse).size:=by rw[Array.size_append];omega
        have bk:=beyK
        clear L1 hk1 hk2 hk3 takeK beyK
        generalize ja-k=kk at *
        generalize o++(a.extract k ja).reverse=o2 at *
        skip)
     | (obtain rfl:k=ja:=by omega
        have L2:=L1
        have q1:=p1
        have q2:=p2
        have hos:=hsz1
        have bk:=beyK
        clear L1 hk1 hk2 hk3 takeK beyK
        skip)
    all_goals refine wpS_bind (jJy hy ?_)
    all_goals have L3:=L2.pushB sb hy bk
    all_goals refine jJs (fun d3=> ?_) fun d3=> ?_
    all_goals first
     | exact wpS_pure ⟨⟨_,rfl⟩,.inl ⟨_,rfl,L3.firstB sa sb d3 hf⟩⟩
     | skip
    all_goals obtain⟨k',rfl⟩:∃n,k=n+1:=⟨k-1,by omega⟩
    all_goals obtain⟨x,hx⟩:=jU3 (arr:=a) (i:=k') (by omega)
    all_goals have mx:=ma x (jJ2 hx)
    all_goals have r4:jb<=b.size:=by omega
    all_goals simp only[Nat.add_sub_cancel]
    all_goals refine wpS_bind (jJy hx ?_)
    all_goals refine wpS_bind (jQz (st:=jKc st _) (f:=fun i=>b.getD i kd) H hk mx (at_e r4) (fun i hi=>mb _ (jJ2 (at_e r4 i hi))) (srt_e H r4 sb mb) (by omega) fun k2 e1 e2 e3=> ?_)
    all_goals obtain⟨takeK,beyK⟩:=galBh H sa ma mb r4 hx e1 e2 e3
    all_goals dsimp only
    all_goals by_cases ck2:jb-k2>0
    all_goals first | rw[if_pos ck2] | rw[if_neg ck2]
    all_goals first
     | (have L4:=L3.takeB sb e1 kXg takeK
        refine jJs (fun d4=> ?_) fun d4=> ?_
        ·exact wpS_pure ⟨⟨_,rfl⟩,.inl ⟨_,rfl,L4.firstB sa sb d4 hf⟩⟩
        refine jJs (fun d5=> ?_) fun d5=> ?_
        ·exact wpS_pure ⟨⟨_,rfl⟩,.inl ⟨_,rfl,L4.done sa sb (.inr d5)⟩⟩
        have L5:=L4.pushA sa hx beyK
        have r1:2<=k2:=by omega
        have r2:k2<=b.size:=by omega
        skip)
     | (obtain rfl:k2=jb:=by omega
        have L5:=L3.pushA sa hx beyK
        have r1:2<=k2:=by omega
        have r2:k2<=b.size:=by omega
        skip)
    all_goals refine wpS_bind (jJy hx ?_)
    all_goals clear takeK beyK e1 e2 e3
    all_goals first
     | (refine jJs (fun d5=> ?_) fun d5=> ?_
        ·exact wpS_pure ⟨⟨_,rfl⟩,.inl ⟨_,rfl,L5.done sa sb (.inl d5)⟩⟩
        ·split
         ·exact wpS_pure ⟨⟨_,rfl⟩,.inr ⟨rfl,L5,by dsimp only;omega,by dsimp only;omega,r1,r2,by simp;omega⟩⟩
         ·exact wpS_pure ⟨⟨_,rfl⟩,rfl,L5,by dsimp only;omega,by dsimp only;omega,r1,r2,by simp;omega⟩)
     | trace_state
   ·rintro⟨r,ja,jb,o,mg1,ac1,bc1⟩ st' ⟨⟨g1,rfl⟩,rfl,L1,p1,p2,p3,p4,hsz1⟩
    dsimp only at L1 p1 p2 p3 p4 hsz1 ⊢
    exact⟨⟨g1,rfl⟩,.inr ⟨rfl,L1,p1,p2,p3,p4,hsz1⟩⟩
   ·rintro⟨r,ja,jb,o,mg1,ac1,bc1⟩ st' ⟨⟨g1,rfl⟩,⟨r',rfl,fr⟩ | ⟨rfl,L1,p1,p2,p3,p4,hsz1⟩⟩
    ·dsimp only
     exact wpS_pure ⟨⟨g1,rfl⟩,r',rfl,fr⟩
    ·dsimp only at L1 p1 p2 p3 p4 hsz1 ⊢
     refine wpS_bind (wpS_modify ?_)
     exact wpS_pure ⟨⟨_,rfl⟩,rfl,L1,p1,p2,p3,p4,by dsimp only;omega⟩
 ·rintro⟨r,na,nb,out,mg⟩ st' ⟨⟨g,rfl⟩,rfl,L,ha,ha',hb,hb',hsz⟩
  dsimp only at L ha ha' hb hb' hsz
  have:=L.size ha' hb'
  exfalso
  rw[Nat.zero_max] at hsz
  omega
 ·rintro⟨r,na,nb,out,mg⟩ st' ⟨⟨g,rfl⟩,r',rfl,fr⟩
  dsimp only
  exact wpS_pure (h _ _ fr)
end
section
theorem jX6 {α:Type}:∀(m:List α) (base:Nat) (arr:Array α) (k:Nat),base+k+m.length<=arr.size->
  ((m.zipIdx k).foldl (fun (a:Array α) (x:α×Nat)=>a.setIfInBounds (base+x.2) x.1) arr).toList=arr.toList.take (base+k)++m++arr.toList.drop (base+k+m.length)
 | [],base,arr,k,h=>by simp
 | p::m,base,arr,k,h=>by
  rw[List.zipIdx_cons,List.foldl_cons]
  have hl:base+k<arr.size:=by simp at h;omega
  rw[jX6 m base _ (k+1) (by rw[Array.size_setIfInBounds];simp at h;omega)]
  rw[Array.toList_setIfInBounds,show base+(k+1)=(base+k)+1 by omega]
  have h1:(arr.toList.set (base+k) p).take (base+k+1)=arr.toList.take (base+k)++[p]:=by
   rw[List.take_succ,List.take_set_of_le (Nat.le_refl _),List.getElem?_set_self (by simpa using hl)];rfl
  have h2:(arr.toList.set (base+k) p).drop (base+k+1+m.length)=arr.toList.drop (base+k+1+m.length):=List.drop_set_of_lt (by omega)
  rw[h1,h2]
  simp only[List.length_cons,List.append_assoc,List.singleton_append,List.cons_append]
  rw[show base+k+(m.length+1)=base+k+1+m.length by omega]
  rfl
end
section
variable {M:Model} {A:Around} {E:Value->Shared->Prop} {s:Shared} {κ:SortKind} {mem:Keyed->Prop} {le:Keyed->Keyed->Prop} [∀x y,Decidable (le x y)]
theorem qK6 {σ:Type} {Q:PUnit->σ->Prop} {st st':σ} (h:Q ⟨⟩ st'):wpS M A E s (set st':StateT σ Sem PUnit) Q st:=by
 unfold wpS;rw[StateT.run_set];exact wpAny_pure ⟨rfl,h⟩
theorem jJ0 {l:List Keyed} {i:Nat} (h:i<l.length):l[i]? =some (l.getD i kd):=by simp[List.getD,h]
theorem jXr (H:Asks M A s κ mem le) {l:List Keyed} (hs:l.Pairwise le) (hm:∀x,x∈l->mem x) (i j:Nat) (hij:i<=j) (hj:j<l.length):le (l.getD i kd) (l.getD j kd):=by
 have h1:=jJ0 (l:=l) (i:=i) (by omega)
 have h2:=jJ0 hj
 rcases Nat.lt_or_eq_of_le hij with q | rfl
 ·exact jZ9 hs h1 q h2
 ·exact (H.tot _ _ (hm _ (List.mem_of_getElem? h1)) (hm _ (List.mem_of_getElem? h1))).elim id id
theorem kVk {st:SortSt} {Q:Bool->SortSt->Prop} {i sa na sb nb pw pw2:Nat} {P X Y S:List Keyed} (H:Asks M A s κ mem le) (hk:kindOf st=κ) (hfl:failedOf st=none) (hp1:(pendingOf st)[i]? =some (sa,na,pw)) (hp2:(pendingOf st)[i+1]? =some (sb,nb,pw2))
  (harr:(arrOf st).toList=P++(X++Y)++S) (h1:P.length=sa) (h2:X.length=na) (h3:sb=sa+na) (h4:Y.length=nb) (hX:1<=na) (hY:1<=nb) (sX:X.Pairwise le) (sY:Y.Pairwise le) (mX:∀x,x∈X->mem x) (mY:∀x,x∈Y->mem x)
  (h:∀Z st',Z.Perm (X++Y)->Z.Pairwise le->(arrOf st').toList=P++Z++S->kindOf st'=κ->failedOf st'=none->pendingOf st'=((pendingOf st).setIfInBounds i (sa,na+nb,pw)).eraseIdxIfInBounds (i+1)->Q true st'):wpS M A E s (mergeAt' i) Q st:=by
 have fX:∀j,j<na->(arrOf st)[sa+j]? =some (X.getD j kd):=fun j hj=>by
  rw[<-Array.getElem?_toList,harr,List.append_assoc,List.getElem?_append_right (by omega),h1,Nat.add_sub_cancel_left,List.append_assoc,List.getElem?_append_left (by omega)]
  exact jJ0 (by omega)
 have fY:∀j,j<nb->(arrOf st)[sb+j]? =some (Y.getD j kd):=fun j hj=>by
  rw[<-Array.getElem?_toList,harr,List.append_assoc,List.getElem?_append_right (by omega),h1,List.append_assoc,List.getElem?_append_right (by omega),h2,List.getElem?_append_left (by omega),show sb+j-sa-na=j by omega]
  exact jJ0 (by omega)
 have mX':∀j,j<na->mem (X.getD j kd):=fun j hj=>mX _ (List.mem_of_getElem? (jJ0 (by omega)))
 have mY':∀j,j<nb->mem (Y.getD j kd):=fun j hj=>mY _ (List.mem_of_getElem? (jJ0 (by omega)))
 refine wpS_bind (wpS_get ?_)
 simp only[hp1,hp2]
 refine wpS_bind (qK6 ?_)
 have hy0:=fY 0 (by omega)
 rw[Nat.add_zero] at hy0
 refine wpS_bind (jJy hy0 ?_)
 refine wpS_bind (jQz (f:=fun j=>X.getD j kd) H (by exact hk) (mY' 0 (by omega)) fX mX' (fun p q hpq hq=>jXr H sX mX p q hpq (by omega)) (by omega) fun k hk1 hk2 hk3=> ?_)
 dsimp only
 simp only[bey,Bool.false_eq_true,if_false,decide_eq_true_eq,decide_eq_false_iff_not] at hk2 hk3
 have inX:∀x,x∈X->∃j,j<na/\x=X.getD j kd:=fun x hx=>by
  (obtain⟨j,hj⟩:=List.getElem?_of_mem hx)
  have hl:=(List.getElem?_eq_some_iff.mp hj).1
  exact⟨j,by omega,by rw[jJ0 hl] at hj;exact (Option.some.inj hj).symm⟩
 have inY:∀x,x∈Y->∃j,j<nb/\x=Y.getD j kd:=fun x hx=>by
  (obtain⟨j,hj⟩:=List.getElem?_of_mem hx)
  have hl:=(List.getElem?_eq_some_iff.mp hj).1
  exact⟨j,by omega,by rw[jJ0 hl] at hj;exact (Option.some.inj hj).symm⟩
 have y0:∀y,y∈Y->le (Y.getD 0 kd) y:=fun y hy=>by
  obtain⟨j,hj,rfl⟩:=inY y hy
  exact jXr H sY mY 0 j (Nat.zero_le _) (by omega)
 have xl:∀x,x∈X->le x (X.getD (na-1) kd):=fun x hx=>by
  obtain⟨j,hj,rfl⟩:=inX x hx
  exact jXr H sX mX j (na-1) (by omega) (by omega)
 have lowX:∀x,x∈X.take k->∀y,y∈Y->le x y:=fun x hx y hy=>by
  (obtain⟨j,hj⟩:=List.getElem?_of_mem hx)
  rw[List.getElem?_take] at hj
  split at hj
  ·rename_i hjk
   rw[jJ0 (by omega)] at hj
   have:=hk2 j hjk
   rw[Option.some.inj hj] at this
   exact H.tr _ _ _ (mX _ (List.mem_of_mem_take hx)) (mY' 0 (by omega)) (mY _ hy) this (y0 y hy)
  ·cases hj
 refine jJs (fun d1=> ?_) fun d1=> ?_
 ·refine wpS_pure (h (X++Y) _ (.refl _) (List.pairwise_append.mpr ⟨sX,sY,fun x hx y hy=>lowX x ?_ y hy⟩) harr hk hfl rfl)
  rw[List.take_of_length_le (by omega)];exact hx
 refine wpS_bind (jJy (x:=X.getD (na-1) kd) (by rw[show sa+k+(na-k)-1=sa+(na-1) by omega];exact fX _ (by omega)) ?_)
 have mk:=mX' (na-1) (by omega)
 refine wpS_bind (jQz (f:=fun j=>Y.getD j kd) H (by exact hk) mk fY mY' (fun p q hpq hq=>jXr H sY mY p q hpq (by omega)) (by omega) fun k2 e1 e2 e3=> ?_)
 dsimp only
 simp only[bey,if_true,Bool.not_eq_true',decide_eq_false_iff_not,Bool.not_eq_false',decide_eq_true_eq] at e2 e3
 have highY:∀y,y∈Y.drop k2->∀x,x∈X->le x y:=fun y hy x hx=>by
  obtain⟨j,hj⟩:=List.getElem?_of_mem hy
  rw[List.getElem?_drop] at hj
  have hl:=(List.getElem?_eq_some_iff.mp hj).1
  rw[jJ0 hl] at hj
  have:=e3 (k2+j) (by omega) (by omega)
  rw[Option.some.inj hj] at this
  exact H.tr _ _ _ (mX _ hx) mk (mY _ (List.mem_of_mem_drop hy)) (xl x hx) this
 refine jJs (fun d2=> ?_) fun d2=> ?_
 ·refine wpS_pure (h (X++Y) _ (.refl _) (List.pairwise_append.mpr ⟨sX,sY,fun x hx y hy=>highY y ?_ x hx⟩) harr hk hfl rfl)
  rw[d2];exact hy
 have exX:((arrOf st).extract (sa+k) sb).toList=X.drop k:=by
  rw[jUy,harr,List.append_assoc,List.append_assoc,<-h1,List.drop_append,List.drop_of_length_le (by omega),List.nil_append,Nat.add_sub_cancel_left,List.drop_append_of_le_length (by omega),List.take_append_of_le_length (by simp;omega),List.take_of_length_le (by simp;omega)]
 have exY:((arrOf st).extract sb (sb+k2)).toList=Y.take k2:=by
  rw[jUy,harr,List.append_assoc,List.append_assoc,<-List.append_assoc P,List.drop_append,List.drop_of_length_le (by simp;omega),List.nil_append,show sb-(P++X).length=0 by simp;omega,List.drop_zero,List.take_append_of_le_length (by omega),Nat.add_sub_cancel_left]
 have szX:((arrOf st).extract (sa+k) sb).size=na-k:=by rw[<-Array.length_toList,exX,List.length_drop,h2]
 have szY:((arrOf st).extract sb (sb+k2)).size=k2:=by rw[<-Array.length_toList,exY,List.length_take,h4];omega
 have fin:∀(r:Array Keyed) g,Fin2 le ((arrOf st).extract (sa+k) sb) ((arrOf st).extract sb (sb+k2)) r->Q (failedOf (jKc st g)).isNone (SortSt.mk' (kindOf st) (r.toList.zipIdx.foldl (fun a x=>a.setIfInBounds (sa+k+x.snd) x.fst) (arrOf st)) (((pendingOf st).setIfInBounds i (sa,na+nb,pw)).eraseIdxIfInBounds (i+1)) g (failedOf st)):=by
  rintro r g ⟨fp,fs⟩
  rw[exX,exY] at fp
  have hrl:r.toList.length=(na-k)+k2:=by rw[fp.length_eq,List.length_append,List.length_drop,List.length_take];omega
  have hal:(arrOf st).size=sa+(na+nb)+S.length:=by rw[<-Array.length_toList,harr];simp;omega
  have e:=jX6 r.toList (sa+k) (arrOf st) 0 (by omega)
  have e2':(failedOf (jKc st g)).isNone=true:=by show (failedOf st).isNone=true;rw[hfl];rfl
  rw[e2']
  have inr:∀z,z∈r.toList->z∈X.drop k\/z∈Y.take k2:=fun z hz=>List.mem_append.mp (fp.mem_iff.mp hz)
  refine h (X.take k++r.toList++Y.drop k2) _ ?_ ?_ ?_ hk hfl rfl
  ·have:(X.take k++r.toList++Y.drop k2).Perm (X.take k++(X.drop k++Y.take k2)++Y.drop k2):=List.Perm.append_right _ (List.Perm.append_left _ fp)
   refine this.trans (List.Perm.of_eq ?_)
   rw[<-List.append_assoc,List.take_append_drop,List.append_assoc,List.take_append_drop]
  ·have sX':(X.take k++X.drop k).Pairwise le:=by rw[List.take_append_drop];exact sX
   have sY':(Y.take k2++Y.drop k2).Pairwise le:=by rw[List.take_append_drop];exact sY
   obtain⟨a1,a2,a3⟩:=List.pairwise_append.mp sX'
   obtain⟨b1,b2,b3⟩:=List.pairwise_append.mp sY'
   refine List.pairwise_append.mpr ⟨List.pairwise_append.mpr ⟨a1,fs,fun x hx z hz=> ?_⟩,b2,fun x hx y hy=> ?_⟩
   ·rcases inr z hz with w | w
    ·exact a3 x hx z w
    ·exact lowX x hx z (List.mem_of_mem_take w)
   ·rcases (List.mem_append.mp hx) with w | w
    ·exact highY y hy x (List.mem_of_mem_take w)
    ·rcases inr x w with w | w
     ·exact highY y hy x (List.mem_of_mem_drop w)
     ·exact b3 x w y hy
  ·show (List.foldl _ _ _:Array Keyed).toList=_
   rw[e,Nat.add_zero,hrl,show sa+k+(na-k+k2)=sb+k2 by omega]
   have t1:(arrOf st).toList.take (sa+k)=P++X.take k:=by
    rw[harr,List.append_assoc,List.append_assoc,<-h1,List.take_append,List.take_of_length_le (by omega),Nat.add_sub_cancel_left,List.take_append_of_le_length (by omega)]
   have t2:(arrOf st).toList.drop (sb+k2)=Y.drop k2++S:=by
    rw[harr,List.append_assoc,List.append_assoc,<-List.append_assoc P,List.drop_append,List.drop_of_length_le (by simp;omega),List.nil_append,show sb+k2-(P++X).length=k2 by simp;omega,List.drop_append_of_le_length (by omega)]
   rw[t1,t2]
   simp only[List.append_assoc]
 have pa:((arrOf st).extract (sa+k) sb).toList.Pairwise le:=by rw[exX];exact sX.sublist (List.drop_sublist ..)
 have pb:((arrOf st).extract sb (sb+k2)).toList.Pairwise le:=by rw[exY];exact sY.sublist (List.take_sublist ..)
 have pma:∀x,x∈((arrOf st).extract (sa+k) sb).toList->mem x:=fun x hx=>by rw[exX] at hx;exact mX x (List.mem_of_mem_drop hx)
 have pmb:∀x,x∈((arrOf st).extract sb (sb+k2)).toList->mem x:=fun x hx=>by rw[exY] at hx;exact mY x (List.mem_of_mem_take hx)
 have pf:∀x,((arrOf st).extract sb (sb+k2))[0]? =some x->∀y,y∈((arrOf st).extract (sa+k) sb).toList->le x y:=fun x hx y hy=>by
  rw[<-Array.getElem?_toList,exY,List.getElem?_take,if_pos (by omega),jJ0 (by omega)] at hx
  rw[<-Option.some.inj hx]
  rw[exX] at hy
  obtain⟨j,hj⟩:=List.getElem?_of_mem hy
  rw[List.getElem?_drop] at hj
  have hl:=(List.getElem?_eq_some_iff.mp hj).1
  rw[jJ0 hl] at hj
  have:=hk3 (k+j) (by omega) (by omega)
  rw[Option.some.inj hj] at this
  exact (H.tot _ _ (mX _ (List.mem_of_mem_drop hy)) (mY' 0 (by omega))).resolve_left this
 have pl:∀x,((arrOf st).extract (sa+k) sb)[((arrOf st).extract (sa+k) sb).size-1]? =some x->∀y,y∈((arrOf st).extract sb (sb+k2)).toList->le y x:=fun x hx y hy=>by
  rw[szX,<-Array.getElem?_toList,exX,List.getElem?_drop,show k+(na-k-1)=na-1 by omega,jJ0 (by omega)] at hx
  rw[<-Option.some.inj hx]
  rw[exY] at hy
  obtain⟨j,hj⟩:=List.getElem?_of_mem hy
  rw[List.getElem?_take] at hj
  split at hj
  ·rename_i hjk
   rw[jJ0 (by omega)] at hj
   have:=e2 j hjk
   rw[Option.some.inj hj] at this
   exact (H.tot _ _ mk (mY _ (List.mem_of_mem_take hy))).resolve_left this
  ·cases hj
 have qa:1<=((arrOf st).extract (sa+k) sb).size:=by rw[szX];omega
 have qb:1<=((arrOf st).extract sb (sb+k2)).size:=by rw[szY];omega
 split
 ·refine wpS_bind (kVi H (by exact hk) qa qb pa pb pma pmb pf pl fun r g fr=> ?_)
  refine wpS_bind (wpS_modify (wpS_bind (wpS_get (wpS_pure ?_))))
  exact fin r g fr
 ·refine wpS_bind (kVj H (by exact hk) qa qb pa pb pma pmb pf pl fun r g fr=> ?_)
  refine wpS_bind (wpS_modify (wpS_bind (wpS_get (wpS_pure ?_))))
  exact fin r g fr
end
section
variable {M:Model} {A:Around} {E:Value->Shared->Prop} {s:Shared} {κ:SortKind} {mem:Keyed->Prop} {le:Keyed->Keyed->Prop} [∀x y,Decidable (le x y)]
structure SB (κ:SortKind) (a0:Array Keyed) (lo hi:Nat) (pe:Array (Nat×Nat×Nat)) (st:SortSt):Prop where
 kind:kindOf st=κ
 fail:failedOf st=none
 pend:pendingOf st=pe
 perm:(arrOf st).Perm a0
 out:∀p,(p<lo\/hi<=p)->(arrOf st)[p]? =a0[p]?
abbrev Vl (st:SortSt) (p:Nat):Keyed:=(arrOf st).getD p kd
def SrtA (le:Keyed->Keyed->Prop) (st:SortSt) (lo n:Nat):Prop:=∀p q,p<q->q<n->le (Vl st (lo+p)) (Vl st (lo+q))
variable {a0:Array Keyed} {lo hi:Nat} {pe:Array (Nat×Nat×Nat)} {st:SortSt}
theorem SB.size (h:SB κ a0 lo hi pe st):(arrOf st).size=a0.size:=h.perm.size_eq
theorem SB.at (h:SB κ a0 lo hi pe st) {p:Nat} (hp:p<a0.size):(arrOf st)[p]? =some (Vl st p):=by
 have:p<(arrOf st).size:=by rw[h.size];exact hp
 simp[Array.getD,this]
theorem SB.inn (h:SB κ a0 lo hi pe st) (hm:∀x,x∈a0.toList->mem x) {p:Nat} (hp:p<a0.size):mem (Vl st p):=by
 have:=jJ2 (h.at hp)
 exact hm _ ((Array.perm_iff_toList_perm.mp h.perm).mem_iff.mp this)
theorem jVv (H:Asks M A s κ mem le) (hm:∀x,x∈a0.toList->mem x) (h:SB κ a0 lo hi pe st) {i j:Nat} (hi:i<a0.size) (hj:j<a0.size) {Q:Option Bool->SortSt->Prop} (q:Q (some (!decide (le (Vl st j) (Vl st i)))) st):wpS M A E s (ltAt' i j) Q st:=by
 rw[ltAt'_eq]
 refine wpS_bind (wpS_get ?_)
 exact wpS_bind (jJy (h.at hi) (wpS_bind (jJy (h.at hj) (kX6 H (h.inn hm hi) (h.inn hm hj) h.kind q))))
theorem SB.set (h:SB κ a0 lo hi pe st) {xs:Array Keyed} (hp:xs.Perm (arrOf st)) (ho:∀p,(p<lo\/hi<=p)->xs[p]? =(arrOf st)[p]?):SB κ a0 lo hi pe (setArr st xs):=
 ⟨h.kind,h.fail,h.pend,hp.trans h.perm,fun p hp=>(ho p hp).trans (h.out p hp)⟩
theorem jYo {xs ys:Array Keyed} {i j:Nat} (h:xs[i]? =ys[j]?):xs.getD i kd=ys.getD j kd:=by
 rw[Array.getD_eq_getD_getElem?,Array.getD_eq_getD_getElem?,h]
theorem V_bub {k l p:Nat} (hs:lo+k<(arrOf st).size) (hl:l<=k):Vl (setArr st (bubble (arrOf st) (lo+k) (lo+k-(lo+l)))) (lo+p)=if p=l then Vl st (lo+k) else if l<p/\p<=k then Vl st (lo+(p-1)) else Vl st (lo+p):=by
 have e:=getElem?_bubble hs (lo+k-(lo+l)) (by omega) (lo+p)
 by_cases h1:p=l
 ·rw[if_pos (by omega)] at e
  rw[if_pos h1];exact jYo e
 ·rw[if_neg (by omega)] at e
  rw[if_neg h1]
  by_cases h2:l<p/\p<=k
  ·rw[if_pos (by omega)] at e
   rw[if_pos h2];exact jYo (e.trans (by rw[show lo+p-1=lo+(p-1) by omega]))
  ·rw[if_neg (by omega)] at e
   rw[if_neg h2];exact jYo e
theorem kJq (H:Asks M A s κ mem le) (hm:∀x,x∈a0.toList->mem x) (h:SB κ a0 lo hi pe st) {n ok:Nat} (hok:1<=ok) (hn:ok<=n) (hl:lo+n<=hi) (hh:hi<=a0.size) (hs:SrtA le st lo ok) {Q:Bool->SortSt->Prop} (q:∀st',SB κ a0 lo hi pe st'->SrtA le st' lo n->Q true st'):wpS M A E s (binarySort' lo n ok) Q st:=by
 rw[binarySort'_eq]
 refine wpS_bind (wpS_mono (wpS_forRange (I:=fun k (c:Option Bool×Unit) st'=>c=(none,())/\SB κ a0 lo hi pe st'/\SrtA le st' lo k) (Q:=fun (c:Option Bool×Unit) st'=>c=(none,())/\SB κ a0 lo hi pe st'/\SrtA le st' lo n) ?_ ?_ ⟨rfl,h,by rw[Nat.max_eq_left hok];exact hs⟩) ?_)
 ·rintro k c st1 hk hkn ⟨rfl,B,S⟩
  have hks:lo+k<a0.size:=by omega
  dsimp only
  have mV:∀p,p<=k->mem (Vl st1 (lo+p)):=fun p hp=>B.inn hm (by omega)
  have S':∀p q,p<=q->q<k->le (Vl st1 (lo+p)) (Vl st1 (lo+q)):=fun p q hpq hq=>by
   rcases Nat.lt_or_eq_of_le hpq with z | rfl
   ·exact S p q z hq
   ·exact (H.tot _ _ (mV p (by omega)) (mV p (by omega))).elim id id
  refine wpS_bind (wpS_mono (wpS_forRange (I:=fun i (c:Option Bool×Nat×Nat) st'=>st1=st'/\c.1=none/\c.2.1<=c.2.2/\c.2.2<=k/\c.2.2-c.2.1<=k-i/\(∀p,p<c.2.1->le (Vl st1 (lo+p)) (Vl st1 (lo+k)))/\(∀p,c.2.2<=p->p<k->le (Vl st1 (lo+k)) (Vl st1 (lo+p))))
   (Q:=fun (c:Option Bool×Nat×Nat) st'=>st1=st'/\c.1=none/\c.2.1<=k/\(∀p,p<c.2.1->le (Vl st1 (lo+p)) (Vl st1 (lo+k)))/\(∀p,c.2.1<=p->p<k->le (Vl st1 (lo+k)) (Vl st1 (lo+p)))) ?_ ?_ ⟨rfl,rfl,Nat.zero_le _,Nat.le_refl _,by dsimp only;omega,fun p hp=>absurd hp (Nat.not_lt_zero _),fun p h1 h2=>absurd h2 (by dsimp only at h1;omega)⟩) ?_)
  ·rintro i ⟨r0,l,r⟩ st2 _ hi2 ⟨rfl,rfl,i1,i2,i3,i4,i5⟩
   dsimp only at i1 i2 i3 i4 i5 ⊢
   by_cases c:l>=r
   ·rw[if_pos c]
    exact wpS_pure ⟨rfl,rfl,by dsimp only;omega,i4,fun p h1 h2=>i5 p (by dsimp only at h1;omega) h2⟩
   ·rw[if_neg c]
    have hmm:(l+r) / 2<k:=by omega
    refine wpS_bind (jVv H hm B (by omega) (by omega) ?_)
    by_cases w:le (Vl st1 (lo+(l+r) / 2)) (Vl st1 (lo+k))
    ·rw[decide_eq_true w]
     dsimp only
     rw[if_neg (by decide)]
     exact wpS_pure ⟨rfl,rfl,by dsimp only;omega,i2,by dsimp only;omega,fun p hp=>H.tr _ _ _ (mV p (by dsimp only at hp;omega)) (mV _ (by omega)) (mV k (Nat.le_refl _)) (S' p _ (by dsimp only at hp;omega) hmm) w,i5⟩
    ·rw[decide_eq_false w]
     dsimp only
     (rw[if_pos (show (!false)=true from rfl)])
     have w':=(H.tot _ _ (mV _ (by omega)) (mV k (Nat.le_refl _))).resolve_left w
     exact wpS_pure ⟨rfl,rfl,by dsimp only;omega,by dsimp only;omega,by dsimp only;omega,i4,fun p h1 h2=>H.tr _ _ _ (mV k (Nat.le_refl _)) (mV _ (by omega)) (mV p (by omega)) w' (S' _ p h1 h2)⟩
  ·rintro⟨r0,l,r⟩ st2 ⟨rfl,rfl,i1,i2,i3,i4,i5⟩
   dsimp only at i1 i2 i3 i4 i5 ⊢
   exact⟨rfl,rfl,by omega,i4,fun p h1 h2=>i5 p (by omega) h2⟩
  ·rintro⟨r0,l,r⟩ st2 ⟨rfl,rfl,i1,i2,i3⟩
   dsimp only at i1 i2 i3 ⊢
   rw[moveDown'_eq]
   have hsz:lo+k<(arrOf st1).size:=by rw[B.size];exact hks
   refine wpS_bind (wpS_modify (wpS_pure ⟨rfl,B.set (bubble_perm ..) (fun p hp=> ?_),fun p q' hpq hq=> ?_⟩))
   ·rw[getElem?_bubble hsz _ (by omega),if_neg (by omega),if_neg (by omega)]
   ·rw[V_bub hsz i1,V_bub hsz i1]
    by_cases e1:p=l
    ·rw[if_pos e1,if_neg (by omega),if_pos ⟨by omega,by omega⟩]
     exact i3 _ (by omega) (by omega)
    ·rw[if_neg e1]
     by_cases e2:q'=l
     ·rw[if_pos e2,if_neg (by omega)]
      exact i2 p (by omega)
     ·rw[if_neg e2]
      by_cases e3:l<p/\p<=k
      ·rw[if_pos e3,if_pos ⟨by omega,by omega⟩]
       exact S _ _ (by omega) (by omega)
      ·rw[if_neg e3]
       by_cases e4:l<q'/\q'<=k
       ·rw[if_pos e4]
        exact S' _ _ (by omega) (by omega)
       ·rw[if_neg e4]
        exact S _ _ hpq (by omega)
 ·rintro c st1 ⟨rfl,B,S⟩
  refine⟨rfl,B,?_⟩
  rwa [show max (max ok 1) n=n by omega] at S
 ·rintro c st1 ⟨rfl,B,S⟩
  dsimp only
  exact wpS_pure (q _ B S)
end
section
variable {M:Model} {A:Around} {E:Value->Shared->Prop} {s:Shared} {κ:SortKind} {mem:Keyed->Prop} {le:Keyed->Keyed->Prop} [∀x y,Decidable (le x y)]
variable {a0:Array Keyed} {lo hi:Nat} {pe:Array (Nat×Nat×Nat)} {st:SortSt}
def NInc (le:Keyed->Keyed->Prop) (st:SortSt) (lo n:Nat):Prop:=∀p q,p<q->q<n->le (Vl st (lo+q)) (Vl st (lo+p))
abbrev revS (st:SortSt) (i j:Nat):SortSt:=setArr st (mirror (arrOf st) i j ((j-i) / 2))
theorem jXo {i j p:Nat} (hj:lo+j<=(arrOf st).size):Vl (revS st (lo+i) (lo+j)) (lo+p)=if i<=p/\p<j then Vl st (lo+(i+j-1-p)) else Vl st (lo+p):=by
 have e:=getElem?_mirror_all (i:=lo+i) hj (lo+p)
 by_cases h:i<=p/\p<j
 ·rw[if_pos (by omega)] at e
  rw[if_pos h];exact jYo (e.trans (by rw[show lo+i+(lo+j)-1-(lo+p)=lo+(i+j-1-p) by omega]))
 ·rw[if_neg (by omega)] at e
  rw[if_neg h];exact jYo e
theorem SB.rev (h:SB κ a0 lo hi pe st) {i j:Nat} (hj:lo+j<=hi) (hh:hi<=a0.size):SB κ a0 lo hi pe (revS st (lo+i) (lo+j)):=
 h.set (mirror_perm ..) fun p hp=>by rw[getElem?_mirror_all (by rw[h.size];omega),if_neg (by omega)]
theorem NInc.flip {n:Nat} (h:NInc le st lo n) (hn:lo+n<=(arrOf st).size):SrtA le (revS st (lo+0) (lo+n)) lo n:=fun p q hpq hq=>by
 rw[jXo hn,jXo hn,if_pos ⟨Nat.zero_le _,by omega⟩,if_pos ⟨Nat.zero_le _,hq⟩]
 exact h _ _ (by omega) (by omega)
theorem SrtA.flip {n:Nat} (h:SrtA le st lo n) (hn:lo+n<=(arrOf st).size):NInc le (revS st (lo+0) (lo+n)) lo n:=fun p q hpq hq=>by
 rw[jXo hn,jXo hn,if_pos ⟨Nat.zero_le _,hq⟩,if_pos ⟨Nat.zero_le _,by omega⟩]
 exact h _ _ (by omega) (by omega)
theorem NInc.part {n m:Nat} (h:NInc le st lo n) (hn:lo+n<=(arrOf st).size) (hm:m<=n) (he:∀p q,m<=p->p<n->m<=q->q<n->le (Vl st (lo+p)) (Vl st (lo+q))):NInc le (revS st (lo+m) (lo+n)) lo n:=fun p q hpq hq=>by
 rw[jXo hn,jXo hn]
 by_cases h1:m<=p
 ·rw[if_pos ⟨by omega,hq⟩,if_pos ⟨h1,by omega⟩]
  exact he _ _ (by omega) (by omega) (by omega) (by omega)
 ·rw[if_neg (by omega:¬ (m<=p/\p<n))]
  by_cases h2:m<=q
  ·rw[if_pos ⟨h2,hq⟩]
   exact h _ _ (by omega) (by omega)
  ·rw[if_neg (by omega)]
   exact h _ _ hpq hq
def Seg (le:Keyed->Keyed->Prop) (st:SortSt) (lo i e:Nat):Prop:=∀p q,i-(e+1)<=p->p<i->i-(e+1)<=q->q<i->le (Vl st (lo+p)) (Vl st (lo+q))
theorem NInc.up (H:Asks M A s κ mem le) (hm:∀x,x∈a0.toList->mem x) {n:Nat} (B:SB κ a0 lo hi pe st) (hn1:1<=n) (hn:lo+n<a0.size) (h:NInc le st lo n) (w:le (Vl st (lo+n)) (Vl st (lo+(n-1)))):NInc le st lo (n+1):=fun p q hpq hq=>by
 rcases Nat.lt_or_eq_of_le (Nat.le_of_lt_succ hq) with z | rfl
 ·exact h p q hpq z
 ·rcases Nat.lt_or_eq_of_le (show p<=q-1 by omega) with y | rfl
  ·exact H.tr _ _ _ (B.inn hm hn) (B.inn hm (by omega)) (B.inn hm (by omega)) w (h p (q-1) y (by omega))
  ·exact w
theorem Seg.part {n e:Nat} (h:Seg le st lo n e) (N:NInc le st lo n) {hn:lo+n<=(arrOf st).size}:NInc le (revS st (lo+(n-(e+1))) (lo+n)) lo n:=N.part hn (by omega) h
theorem kQo (H:Asks M A s κ mem le) (hm:∀x,x∈a0.toList->mem x) (h:SB κ a0 lo hi pe st) {nrem:Nat} (h1:1<=nrem) (hl:lo+nrem<=hi) (hh:hi<=a0.size) {Q:Option Nat->SortSt->Prop} (q:∀n st',SB κ a0 lo hi pe st'->1<=n->n<=nrem->SrtA le st' lo n->Q (some n) st'):wpS M A E s (countRun' lo nrem) Q st:=by
 rw[countRun'_eq]
 have up:∀(st':SortSt) n,SB κ a0 lo hi pe st'->1<=n->n<nrem->SrtA le st' lo n->le (Vl st' (lo+n-1)) (Vl st' (lo+n))->SrtA le st' lo (n+1):=fun st' n B hn hnr S w p q hpq hq=>by
  rcases Nat.lt_or_eq_of_le (Nat.le_of_lt_succ hq) with z | rfl
  ·exact S p q hpq z
  ·rw[show lo+q-1=lo+(q-1) by omega] at w
   rcases Nat.lt_or_eq_of_le (show p<=q-1 by omega) with y | rfl
   ·exact H.tr _ _ _ (B.inn hm (by omega)) (B.inn hm (by omega)) (B.inn hm (by omega)) (S p (q-1) y (by omega)) w
   ·exact w
 refine wpS_bind (wpS_mono (wpS_forRange (I:=fun i (c:Option (Option Nat)×Nat) st'=>st=st'/\c=(none,i)/\SrtA le st lo i) (Q:=fun (c:Option (Option Nat)×Nat) st'=>st=st'/\c.1=none/\1<=c.2/\c.2<=nrem/\SrtA le st lo c.2/\(c.2<nrem->¬ le (Vl st (lo+c.2-1)) (Vl st (lo+c.2)))) ?_ ?_ ⟨rfl,rfl,fun p q hpq hq=>absurd hq (by omega)⟩) ?_)
 ·rintro i c st1 hi1 hi2 ⟨rfl,rfl,S⟩
  dsimp only
  refine wpS_bind (jVv H hm h (by omega) (by omega) ?_)
  by_cases w:le (Vl st (lo+i-1)) (Vl st (lo+i))
  ·rw[decide_eq_true w]
   dsimp only
   rw[if_neg (by decide)]
   exact wpS_pure ⟨rfl,rfl,up st i h hi1 hi2 S w⟩
  ·rw[decide_eq_false w]
   dsimp only
   (rw[if_pos (show (!false)=true from rfl)])
   exact wpS_pure ⟨rfl,rfl,hi1,by dsimp only;omega,S,fun _=>w⟩
 ·rintro c st1 ⟨rfl,rfl,S⟩
  rw[show max 1 nrem=nrem by omega] at S ⊢
  exact⟨rfl,rfl,h1,Nat.le_refl _,S,fun z=>absurd z (Nat.lt_irrefl _)⟩
 ·rintro⟨r,n⟩ st1 ⟨rfl,rfl,n1,n2,S,W⟩
  dsimp only at n1 n2 S W ⊢
  refine jJs (fun d=> ?_) fun d=> ?_
  ·exact wpS_pure (q n st h n1 n2 S)
  have nlt:n<nrem:=by omega
  have en:lo+n-1=lo+(n-1):=by omega
  rw[en] at W
  have W':=(H.tot _ _ (h.inn hm (by omega)) (h.inn hm (by omega))).resolve_left (W nlt)
  by_cases cn:n>1
  ·rw[if_pos cn]
   refine wpS_bind (jVv H hm h (by omega) (by omega) ?_)
   rw[en]
   by_cases w:le (Vl st (lo+(n-1))) (Vl st lo)
   ·rw[decide_eq_true w]
    dsimp only
    rw[if_neg (by decide),reverseSlice'_eq]
    have hsz:lo+n<=(arrOf st).size:=by rw[h.size];omega
    have B2:=h.rev (i:=0) (j:=n) (by omega) hh
    have N2:NInc le (revS st (lo+0) (lo+n)) lo (n+1):=by
     refine (S.flip hsz).up H hm B2 n1 (by omega) ?_
     rw[jXo hsz,jXo hsz,if_neg (by omega),if_pos (by omega),show 0+n-1-(n-1)=0 by omega,Nat.add_zero]
     exact H.tr _ _ _ (h.inn hm (by omega)) (h.inn hm (by omega)) (h.inn hm (by omega)) W' w
    refine wpS_bind (wpS_modify ?_)
    (refine wpS_bind (wpS_lift (wpAny_rule ⟨rfl,?_⟩)))
    refine wpS_bind (wpS_mono (wpS_forRange (I:=fun i (c:Option (Option Nat)×Nat×Nat) st'=>SB κ a0 lo hi pe st'/\c.1=none/\c.2.1=i/\NInc le st' lo i/\c.2.2+1<=i/\Seg le st' lo i c.2.2)
     (Q:=fun (c:Option (Option Nat)×Nat×Nat) st'=>SB κ a0 lo hi pe st'/\c.1=none/\1<=c.2.1/\c.2.1<=nrem/\NInc le st' lo c.2.1/\c.2.2+1<=c.2.1/\Seg le st' lo c.2.1 c.2.2) ?_ ?_ ⟨B2,rfl,rfl,N2,by dsimp only;omega,fun p q a1 a2 a3 a4=>by
      obtain rfl:p=q:=by dsimp only at a1 a3;omega
      exact (H.tot _ _ (B2.inn hm (by omega)) (B2.inn hm (by omega))).elim id id⟩) ?_)
    ·rintro i ⟨r,i',e⟩ st3 hi1 hi2 ⟨B,rfl,rfl,N,he,sg⟩
     dsimp only at N he sg hi1 hi2 ⊢
     have ei:lo+i'-1=lo+(i'-1):=by omega
     refine wpS_bind (jVv H hm B (by omega) (by omega) ?_)
     rw[ei]
     by_cases w:le (Vl st3 (lo+(i'-1))) (Vl st3 (lo+i'))
     ·rw[decide_eq_true w]
      dsimp only
      rw[if_neg (by decide)]
      refine wpS_bind (jVv H hm B (by omega) (by omega) ?_)
      by_cases w2:le (Vl st3 (lo+i')) (Vl st3 (lo+(i'-1)))
      ·rw[decide_eq_true w2]
       dsimp only
       rw[if_neg (by decide)]
       refine wpS_pure ⟨B,rfl,rfl,N.up H hm B (by omega) (by omega) w2,by dsimp only;omega,fun p q a1 a2 a3 a4=> ?_⟩
       dsimp only at a1 a3
       have to:∀p,i'-(e+1)<=p->p<i'->le (Vl st3 (lo+p)) (Vl st3 (lo+i'))/\le (Vl st3 (lo+i')) (Vl st3 (lo+p)):=fun p b1 b2=>
        ⟨H.tr _ _ _ (B.inn hm (by omega)) (B.inn hm (by omega)) (B.inn hm (by omega)) (sg p (i'-1) b1 b2 (by omega) (by omega)) w,H.tr _ _ _ (B.inn hm (by omega)) (B.inn hm (by omega)) (B.inn hm (by omega)) w2 (sg (i'-1) p (by omega) (by omega) b1 b2)⟩
       by_cases ep:p=i'
       ·by_cases eq:q=i'
        ·rw[ep,eq];exact (H.tot _ _ (B.inn hm (by omega)) (B.inn hm (by omega))).elim id id
        ·rw[ep];exact (to q (by omega) (by omega)).2
       ·by_cases eq:q=i'
        ·rw[eq];exact (to p (by omega) (by omega)).1
        ·exact sg p q (by omega) (by omega) (by omega) (by omega)
      ·rw[decide_eq_false w2]
       dsimp only
       (rw[if_pos (show (!false)=true from rfl)])
       exact wpS_pure ⟨B,rfl,by dsimp only;omega,by dsimp only;omega,N,he,sg⟩
     ·rw[decide_eq_false w]
      dsimp only
      (rw[if_pos (show (!false)=true from rfl)])
      have w':=(H.tot _ _ (B.inn hm (by omega)) (B.inn hm (by omega))).resolve_left w
      have one:∀st4,SB κ a0 lo hi pe st4->Seg le st4 lo (i'+1) 0:=fun st4 B4 p q a1 a2 a3 a4=>by
       obtain rfl:p=q:=by omega
       exact (H.tot _ _ (B4.inn hm (by omega)) (B4.inn hm (by omega))).elim id id
      by_cases ce:e>0
      ·rw[if_pos ce,reverseSlice'_eq,show lo+i'-(e+1)=lo+(i'-(e+1)) by omega]
       have hsz:lo+i'<=(arrOf st3).size:=by rw[B.size];omega
       have B4:=B.rev (i:=i'-(e+1)) (j:=i') (by omega) hh
       have N4:=sg.part N (hn:=hsz)
       refine wpS_bind (wpS_modify (wpS_pure ⟨B4,rfl,rfl,N4.up H hm B4 (by omega) (by omega) ?_,by dsimp only;omega,one _ B4⟩))
       rw[jXo hsz,jXo hsz,if_neg (by omega),if_pos (by omega)]
       exact H.tr _ _ _ (B.inn hm (by omega)) (B.inn hm (by omega)) (B.inn hm (by omega)) w' (sg _ _ (by omega) (by omega) (by omega) (by omega))
      ·rw[if_neg ce]
       exact wpS_pure ⟨B,rfl,rfl,N.up H hm B (by omega) (by omega) w',by dsimp only;omega,one _ B⟩
    ·rintro⟨r,i',e⟩ st3 ⟨B,rfl,rfl,N,he,sg⟩
     dsimp only at N he sg ⊢
     exact⟨B,rfl,by omega,by omega,N,he,sg⟩
    ·rintro⟨r,i',e⟩ st3 ⟨B,rfl,b1,b2,N,he,sg⟩
     dsimp only at b1 b2 N he sg ⊢
     have hsz:lo+i'<=(arrOf st3).size:=by rw[B.size];omega
     by_cases ce:e>0
     all_goals first | rw[if_pos ce,reverseSlice'_eq,reverseSlice'_eq,show lo+i'-(e+1)=lo+(i'-(e+1)) by omega] | rw[if_neg ce,reverseSlice'_eq]
     all_goals first
      | (have N4:=sg.part N (hn:=hsz)
         have B4:=B.rev (i:=i'-(e+1)) (j:=i') (by omega) hh
         have S5:=N4.flip (by rw[B4.size];omega)
         have B5:=B4.rev (i:=0) (j:=i') (by omega) hh
         refine wpS_bind (wpS_modify (wpS_bind (wpS_modify ?_)))
         skip)
      | (have S5:=N.flip hsz
         have B5:=B.rev (i:=0) (j:=i') (by omega) hh
         refine wpS_bind (wpS_modify ?_)
         skip)
     all_goals refine wpS_bind (wpS_mono (wpS_forRange (I:=fun i (c:Option (Option Nat)×Nat) st'=>SB κ a0 lo hi pe st'/\c=(none,i)/\SrtA le st' lo i) (Q:=fun (c:Option (Option Nat)×Nat) st'=>SB κ a0 lo hi pe st'/\c.1=none/\1<=c.2/\c.2<=nrem/\SrtA le st' lo c.2) ?_ ?_ ⟨B5,rfl,S5⟩) ?_)
     all_goals first
      | (rintro i c st6 hi1 hi2 ⟨B6,rfl,S6⟩
         dsimp only
         refine wpS_bind (jVv H hm B6 (by omega) (by omega) ?_)
         by_cases w:le (Vl st6 (lo+i-1)) (Vl st6 (lo+i))
         ·rw[decide_eq_true w]
          dsimp only
          rw[if_neg (by decide)]
          exact wpS_pure ⟨B6,rfl,up st6 i B6 (by omega) hi2 S6 w⟩
         ·rw[decide_eq_false w]
          dsimp only
          (rw[if_pos (show (!false)=true from rfl)])
          exact wpS_pure ⟨B6,rfl,by dsimp only;omega,by dsimp only;omega,S6⟩)
      | (rintro c st6 ⟨B6,rfl,S6⟩
         rw[show max i' nrem=nrem by omega] at S6 ⊢
         exact⟨B6,rfl,h1,Nat.le_refl _,S6⟩)
      | (rintro⟨r,k⟩ st6 ⟨B6,rfl,k1,k2,S6⟩
         dsimp only at k1 k2 S6 ⊢
         exact wpS_pure (q k st6 B6 k1 k2 S6))
   ·rw[decide_eq_false w]
    dsimp only
    (rw[if_pos (show (!false)=true from rfl)])
    exact wpS_pure (q n st h n1 n2 S)
  ·rw[if_neg cn]
   obtain rfl:n=1:=by omega
   have B2:=h
   have N2:NInc le st lo (1+1):=fun p q hpq hq=>by
    obtain rfl:p=0:=by omega
    obtain rfl:q=1:=by omega
    exact W'
   (refine wpS_bind (wpS_lift (wpAny_rule ⟨rfl,?_⟩)))
   refine wpS_bind (wpS_mono (wpS_forRange (I:=fun i (c:Option (Option Nat)×Nat×Nat) st'=>SB κ a0 lo hi pe st'/\c.1=none/\c.2.1=i/\NInc le st' lo i/\c.2.2+1<=i/\Seg le st' lo i c.2.2)
    (Q:=fun (c:Option (Option Nat)×Nat×Nat) st'=>SB κ a0 lo hi pe st'/\c.1=none/\1<=c.2.1/\c.2.1<=nrem/\NInc le st' lo c.2.1/\c.2.2+1<=c.2.1/\Seg le st' lo c.2.1 c.2.2) ?_ ?_ ⟨B2,rfl,rfl,N2,by dsimp only;omega,fun p q a1 a2 a3 a4=>by
     obtain rfl:p=q:=by dsimp only at a1 a3;omega
     exact (H.tot _ _ (B2.inn hm (by omega)) (B2.inn hm (by omega))).elim id id⟩) ?_)
   ·rintro i ⟨r,i',e⟩ st3 hi1 hi2 ⟨B,rfl,rfl,N,he,sg⟩
    dsimp only at N he sg hi1 hi2 ⊢
    have ei:lo+i'-1=lo+(i'-1):=by omega
    refine wpS_bind (jVv H hm B (by omega) (by omega) ?_)
    rw[ei]
    by_cases w:le (Vl st3 (lo+(i'-1))) (Vl st3 (lo+i'))
    ·rw[decide_eq_true w]
     dsimp only
     rw[if_neg (by decide)]
     refine wpS_bind (jVv H hm B (by omega) (by omega) ?_)
     by_cases w2:le (Vl st3 (lo+i')) (Vl st3 (lo+(i'-1)))
     ·rw[decide_eq_true w2]
      dsimp only
      rw[if_neg (by decide)]
      refine wpS_pure ⟨B,rfl,rfl,N.up H hm B (by omega) (by omega) w2,by dsimp only;omega,fun p q a1 a2 a3 a4=> ?_⟩
      dsimp only at a1 a3
      have to:∀p,i'-(e+1)<=p->p<i'->le (Vl st3 (lo+p)) (Vl st3 (lo+i'))/\le (Vl st3 (lo+i')) (Vl st3 (lo+p)):=fun p b1 b2=>
       ⟨H.tr _ _ _ (B.inn hm (by omega)) (B.inn hm (by omega)) (B.inn hm (by omega)) (sg p (i'-1) b1 b2 (by omega) (by omega)) w,H.tr _ _ _ (B.inn hm (by omega)) (B.inn hm (by omega)) (B.inn hm (by omega)) w2 (sg (i'-1) p (by omega) (by omega) b1 b2)⟩
      by_cases ep:p=i'
      ·by_cases eq:q=i'
       ·rw[ep,eq];exact (H.tot _ _ (B.inn hm (by omega)) (B.inn hm (by omega))).elim id id
       ·rw[ep];exact (to q (by omega) (by omega)).2
      ·by_cases eq:q=i'
       ·rw[eq];exact (to p (by omega) (by omega)).1
       ·exact sg p q (by omega) (by omega) (by omega) (by omega)
     ·rw[decide_eq_false w2]
      dsimp only
      (rw[if_pos (show (!false)=true from rfl)])
      exact wpS_pure ⟨B,rfl,by dsimp only;omega,by dsimp only;omega,N,he,sg⟩
    ·rw[decide_eq_false w]
     dsimp only
     (rw[if_pos (show (!false)=true from rfl)])
     have w':=(H.tot _ _ (B.inn hm (by omega)) (B.inn hm (by omega))).resolve_left w
     have one:∀st4,SB κ a0 lo hi pe st4->Seg le st4 lo (i'+1) 0:=fun st4 B4 p q a1 a2 a3 a4=>by
      obtain rfl:p=q:=by omega
      exact (H.tot _ _ (B4.inn hm (by omega)) (B4.inn hm (by omega))).elim id id
     by_cases ce:e>0
     ·rw[if_pos ce,reverseSlice'_eq,show lo+i'-(e+1)=lo+(i'-(e+1)) by omega]
      have hsz:lo+i'<=(arrOf st3).size:=by rw[B.size];omega
      have B4:=B.rev (i:=i'-(e+1)) (j:=i') (by omega) hh
      have N4:=sg.part N (hn:=hsz)
      refine wpS_bind (wpS_modify (wpS_pure ⟨B4,rfl,rfl,N4.up H hm B4 (by omega) (by omega) ?_,by dsimp only;omega,one _ B4⟩))
      rw[jXo hsz,jXo hsz,if_neg (by omega),if_pos (by omega)]
      exact H.tr _ _ _ (B.inn hm (by omega)) (B.inn hm (by omega)) (B.inn hm (by omega)) w' (sg _ _ (by omega) (by omega) (by omega) (by omega))
     ·rw[if_neg ce]
      exact wpS_pure ⟨B,rfl,rfl,N.up H hm B (by omega) (by omega) w',by dsimp only;omega,one _ B⟩
   ·rintro⟨r,i',e⟩ st3 ⟨B,rfl,rfl,N,he,sg⟩
    dsimp only at N he sg ⊢
    exact⟨B,rfl,by omega,by omega,N,he,sg⟩
   ·rintro⟨r,i',e⟩ st3 ⟨B,rfl,b1,b2,N,he,sg⟩
    dsimp only at b1 b2 N he sg ⊢
    have hsz:lo+i'<=(arrOf st3).size:=by rw[B.size];omega
    by_cases ce:e>0
    all_goals first | rw[if_pos ce,reverseSlice'_eq,reverseSlice'_eq,show lo+i'-(e+1)=lo+(i'-(e+1)) by omega] | rw[if_neg ce,reverseSlice'_eq]
    all_goals first
     | (have N4:=sg.part N (hn:=hsz)
        have B4:=B.rev (i:=i'-(e+1)) (j:=i') (by omega) hh
        have S5:=N4.flip (by rw[B4.size];omega)
        have B5:=B4.rev (i:=0) (j:=i') (by omega) hh
        refine wpS_bind (wpS_modify (wpS_bind (wpS_modify ?_)))
        skip)
     | (have S5:=N.flip hsz
        have B5:=B.rev (i:=0) (j:=i') (by omega) hh
        refine wpS_bind (wpS_modify ?_)
        skip)
    all_goals refine wpS_bind (wpS_mono (wpS_forRange (I:=fun i (c:Option (Option Nat)×Nat) st'=>SB κ a0 lo hi pe st'/\c=(none,i)/\SrtA le st' lo i) (Q:=fun (c:Option (Option Nat)×Nat) st'=>SB κ a0 lo hi pe st'/\c.1=none/\1<=c.2/\c.2<=nrem/\SrtA le st' lo c.2) ?_ ?_ ⟨B5,rfl,S5⟩) ?_)
    all_goals first
     | (rintro i c st6 hi1 hi2 ⟨B6,rfl,S6⟩
        dsimp only
        refine wpS_bind (jVv H hm B6 (by omega) (by omega) ?_)
        by_cases w:le (Vl st6 (lo+i-1)) (Vl st6 (lo+i))
        ·rw[decide_eq_true w]
         dsimp only
         rw[if_neg (by decide)]
         exact wpS_pure ⟨B6,rfl,up st6 i B6 (by omega) hi2 S6 w⟩
        ·rw[decide_eq_false w]
         dsimp only
         (rw[if_pos (show (!false)=true from rfl)])
         exact wpS_pure ⟨B6,rfl,by dsimp only;omega,by dsimp only;omega,S6⟩)
     | (rintro c st6 ⟨B6,rfl,S6⟩
        rw[show max i' nrem=nrem by omega] at S6 ⊢
        exact⟨B6,rfl,h1,Nat.le_refl _,S6⟩)
     | (rintro⟨r,k⟩ st6 ⟨B6,rfl,k1,k2,S6⟩
        dsimp only at k1 k2 S6 ⊢
        exact wpS_pure (q k st6 B6 k1 k2 S6))
end
section
variable {M:Model} {A:Around} {E:Value->Shared->Prop} {s:Shared} {κ:SortKind} {mem:Keyed->Prop} {le:Keyed->Keyed->Prop} [∀x y,Decidable (le x y)]
structure Runs (κ:SortKind) (le:Keyed->Keyed->Prop) (a0:Array Keyed) (Rs:List (List Keyed)) (rest:List Keyed) (st:SortSt):Prop where
 kind:kindOf st=κ
 fail:failedOf st=none
 arr:(arrOf st).toList=Rs.flatten++rest
 perm:(arrOf st).toList.Perm a0.toList
 srt:∀R,R∈Rs->R.Pairwise le/\1<=R.length
 pend:∀i,(pendingOf st)[i]?.map (fun x=>(x.1,x.2.1))=(Rs[i]?).map (fun R=>(((Rs.take i).flatten).length,R.length))
theorem Runs.size {a0:Array Keyed} {Rs:List (List Keyed)} {rest:List Keyed} {st:SortSt} (h:Runs κ le a0 Rs rest st):(pendingOf st).size=Rs.length:=by
 rcases Nat.lt_trichotomy (pendingOf st).size Rs.length with z | z | z
 ·have:=h.pend (pendingOf st).size
  rw[Array.getElem?_eq_none (Nat.le_refl _),List.getElem?_eq_getElem z] at this
  cases this
 ·exact z
 ·have:=h.pend Rs.length
  rw[Array.getElem?_eq_getElem z,List.getElem?_eq_none (Nat.le_refl _)] at this
  cases this
theorem split2 {Rs:List (List Keyed)} {i:Nat} (h:i+1<Rs.length):∃A X Y B,Rs=A++X::Y::B/\A.length=i:=by
 refine⟨Rs.take i,Rs[i],Rs[i+1],Rs.drop (i+2),?_,by simp;omega⟩
 conv=>lhs;rw[<-List.take_append_drop i Rs]
 rw[List.drop_eq_getElem_cons (by omega),List.drop_eq_getElem_cons (by omega)]
theorem kXt {o:Option (Nat×Nat×Nat)} {a b:Nat} (h:o.map (fun x=>(x.1,x.2.1))=some (a,b)):∃p,o=some (a,b,p):=by
 cases o with
 | none=>cases h
 | some x=>
  obtain⟨u,v,w⟩:=x
  simp only[Option.map_some,Option.some.injEq,Prod.mk.injEq] at h
  obtain⟨rfl,rfl⟩:=h
  exact⟨w,rfl⟩
theorem Runs.merge {a0:Array Keyed} {Rs:List (List Keyed)} {rest:List Keyed} {st:SortSt} {i:Nat} {Q:Bool->SortSt->Prop} (H:Asks M A s κ mem le) (hm:∀x,x∈a0.toList->mem x) (h:Runs κ le a0 Rs rest st) (hi:i+1<Rs.length)
  (q:∀Rs' st',Runs κ le a0 Rs' rest st'->Rs'.length+1=Rs.length->Rs'.flatten.length=Rs.flatten.length->Q true st'):wpS M A E s (mergeAt' i) Q st:=by
 obtain⟨As,X,Y,B,rfl,hA⟩:=split2 hi
 have hsz:=h.size
 have p1:=h.pend i
 have p2:=h.pend (i+1)
 have e1:(As++X::Y::B)[i]? =some X:=by rw[List.getElem?_append_right (by omega),hA,Nat.sub_self];rfl
 have e2:(As++X::Y::B)[i+1]? =some Y:=by rw[List.getElem?_append_right (by omega),hA,show i+1-i=1 by omega];rfl
 have t1:(As++X::Y::B).take i=As:=by rw[<-hA];exact List.take_left
 have t2:(As++X::Y::B).take (i+1)=As++[X]:=by rw[<-hA,List.take_length_add_append];rfl
 rw[e1,t1,Option.map_some] at p1
 rw[e2,t2,Option.map_some] at p2
 obtain⟨w1,p1⟩:=kXt p1
 obtain⟨w2,p2⟩:=kXt p2
 have inM:∀x,x∈(arrOf st).toList->mem x:=fun x hx=>hm x (h.perm.mem_iff.mp hx)
 have harr:(arrOf st).toList=As.flatten++(X++Y)++(B.flatten++rest):=by rw[h.arr];simp
 obtain⟨sX,lX⟩:=h.srt X (by simp)
 obtain⟨sY,lY⟩:=h.srt Y (by simp)
 refine kVk H h.kind h.fail p1 p2 harr rfl rfl (by simp) rfl lX lY sX sY (fun x hx=>inM x (by rw[harr];simp[hx])) (fun x hx=>inM x (by rw[harr];simp[hx])) fun Z st' zp zs za zk zf zpe=> ?_
 have zl:Z.length=X.length+Y.length:=by rw[zp.length_eq,List.length_append]
 refine q (As++Z::B) st' ⟨zk,zf,by rw[za];simp,?_,fun R hR=> ?_,fun j=> ?_⟩ (by simp;omega) (by simp;omega)
 ·refine List.Perm.trans ?_ h.perm
  rw[za,harr]
  exact List.Perm.append_right _ (List.Perm.append_left _ zp)
 ·rcases (List.mem_append.mp hR) with z | z
  ·exact h.srt R (by simp[z])
  ·rcases (List.mem_cons.mp z) with rfl | z
   ·exact⟨zs,by omega⟩
   ·exact h.srt R (by simp[z])
 ·have hin:i+1<((pendingOf st).setIfInBounds i (As.flatten.length,X.length+Y.length,w1)).size:=by rw[Array.size_setIfInBounds,hsz];exact hi
  have er:(pendingOf st')[j]? =if j<i+1 then ((pendingOf st).setIfInBounds i (As.flatten.length,X.length+Y.length,w1))[j]? else ((pendingOf st).setIfInBounds i (As.flatten.length,X.length+Y.length,w1))[j+1]? :=by
   rw[zpe,Array.eraseIdxIfInBounds,dif_pos hin,Array.getElem?_eraseIdx]
  rw[er]
  rcases Nat.lt_trichotomy j i with z | z | z
  ·rw[if_pos (by omega),Array.getElem?_setIfInBounds,if_neg (by omega),h.pend j,List.getElem?_append_left (by omega),List.getElem?_append_left (by omega),List.take_append_of_le_length (by omega),List.take_append_of_le_length (by omega)]
  ·subst z
   have e3:(As++Z::B)[j]? =some Z:=by rw[List.getElem?_append_right (by omega),hA,Nat.sub_self];rfl
   have t3:(As++Z::B).take j=As:=by rw[<-hA];exact List.take_left
   rw[if_pos (by omega),Array.getElem?_setIfInBounds,if_pos rfl,if_pos (by rw[hsz];omega),e3,t3,Option.map_some,Option.map_some,zl]
  ·obtain⟨d,rfl⟩:∃d,j=i+1+d:=⟨j-i-1,by omega⟩
   rw[if_neg (by omega),Array.getElem?_setIfInBounds,if_neg (by omega),h.pend]
   have g1:(As++X::Y::B)[i+1+d+1]? =B[d]? :=by rw[List.getElem?_append_right (by omega),hA,show i+1+d+1-i=d+2 by omega];rfl
   have g2:(As++Z::B)[i+1+d]? =B[d]? :=by rw[List.getElem?_append_right (by omega),hA,show i+1+d-i=d+1 by omega];rfl
   have g3:(As++X::Y::B).take (i+1+d+1)=As++X::Y::B.take d:=by rw[show i+1+d+1=As.length+(d+2) by omega,List.take_length_add_append];rfl
   have g4:(As++Z::B).take (i+1+d)=As++Z::B.take d:=by rw[show i+1+d=As.length+(d+1) by omega,List.take_length_add_append];rfl
   rw[g1,g2,g3,g4]
   congr 1
   funext R
   have:(As++X::Y::B.take d).flatten.length=(As++Z::B.take d).flatten.length:=by simp;omega
   rw[this]
end
section
variable {M:Model} {A:Around} {E:Value->Shared->Prop} {s:Shared} {κ:SortKind} {mem:Keyed->Prop} {le:Keyed->Keyed->Prop} [∀x y,Decidable (le x y)] {a0:Array Keyed} {Rs:List (List Keyed)} {rest:List Keyed} {st st3:SortSt}
theorem Runs.add {n lo:Nat} (h:Runs κ le a0 Rs rest st) (hlo:lo=Rs.flatten.length) (B:SB κ (arrOf st) lo (arrOf st).size (pendingOf st) st3) (hn:lo+n<=(arrOf st).size) (S:SrtA le st3 lo n):∃R r3,R.length=n/\R.Pairwise le/\Runs κ le a0 Rs (R++r3) st3:=by
 have hsz:=B.size
 have hd:(arrOf st3).toList.take lo=Rs.flatten:=by
  have:(arrOf st).toList.take lo=Rs.flatten:=by rw[h.arr,hlo];exact List.take_left
  rw[<-this]
  apply List.ext_getElem?
  intro p
  rw[List.getElem?_take,List.getElem?_take]
  by_cases c:p<lo
  ·rw[if_pos c,if_pos c,Array.getElem?_toList,Array.getElem?_toList]
   exact B.out p (.inl c)
  ·rw[if_neg c,if_neg c]
 refine⟨((arrOf st3).toList.drop lo).take n,((arrOf st3).toList.drop lo).drop n,by simp;omega,?_,B.kind,B.fail,?_,?_,h.srt,fun i=> ?_⟩
 ·rw[List.pairwise_iff_getElem]
  intro p q hp hq hpq
  have hq':q<n:=by simp at hq;omega
  have:=S p q hpq hq'
  rw[List.getElem_take,List.getElem_take,List.getElem_drop,List.getElem_drop]
  simp only[Vl,Array.getD,show lo+p<(arrOf st3).size by omega,show lo+q<(arrOf st3).size by omega,dif_pos] at this
  simpa using this
 ·rw[List.take_append_drop,<-hd,List.take_append_drop]
 ·exact (Array.perm_iff_toList_perm.mp B.perm).trans h.perm
 ·rw[B.pend];exact h.pend i
theorem Runs.push {R r3:List Keyed} (h:Runs κ le a0 Rs (R++r3) st) (hs:R.Pairwise le) (hl:1<=R.length):Runs κ le a0 (Rs++[R]) r3 (setPending st ((pendingOf st).push (Rs.flatten.length,R.length,0))):=by
 have hsz:=h.size
 refine⟨h.kind,h.fail,by show (arrOf st).toList=_;rw[h.arr];simp,h.perm,fun X hX=> ?_,fun i=> ?_⟩
 ·rcases (List.mem_append.mp hX) with z | z
  ·exact h.srt X z
  ·rw[List.mem_singleton] at z;rw[z];exact⟨hs,hl⟩
 ·show ((pendingOf st).push _)[i]?.map _=_
  rw[Array.getElem?_push]
  by_cases c:i=(pendingOf st).size
  ·rw[if_pos c,List.getElem?_append_right (by omega),show i-Rs.length=0 by omega,List.take_append_of_le_length (by omega),List.take_of_length_le (by omega)]
   rfl
  ·rw[if_neg c,h.pend i]
   by_cases d:i<Rs.length
   ·rw[List.getElem?_append_left d,List.take_append_of_le_length (by omega)]
   ·rw[List.getElem?_eq_none (by omega),List.getElem?_eq_none (by simp;omega)];rfl
theorem Runs.pw {k:Nat} {f:Nat×Nat×Nat->Nat×Nat×Nat} (h:Runs κ le a0 Rs rest st) (hf:∀x,((f x).1,(f x).2.1)=(x.1,x.2.1)):Runs κ le a0 Rs rest (setPending st ((pendingOf st).modify k f)):=by
 refine⟨h.kind,h.fail,h.arr,h.perm,h.srt,fun i=> ?_⟩
 show ((pendingOf st).modify k f)[i]?.map _=_
 rw[<-h.pend i,Array.getElem?_modify]
 split
 ·rw[Option.map_map]
  congr 1
  funext x
  exact hf x
 ·rfl
theorem ite_lt {c:Prop} [Decidable c] {a b n:Nat} (ha:a+1<n) (hb:b+1<n):(if c then a else b)+1<n:=by
 split<;>assumption
theorem kQ0:∀ {Rs:List (List Keyed)},(∀R,R∈Rs->1<=R.length)->Rs.length<=Rs.flatten.length
 | [],_=>Nat.le_refl _
 | R::Rs,h=>by
  have:=kQ0 (Rs:=Rs) fun X hX=>h X (List.mem_cons_of_mem _ hX)
  have:=h R (List.mem_cons_self ..)
  rw[List.flatten_cons,List.length_append,List.length_cons]
  omega
theorem Runs.len (h:Runs κ le a0 Rs rest st):Rs.flatten.length+rest.length=a0.size:=by
 have:=h.perm.length_eq
 rw[h.arr] at this
 simpa using this
theorem kK3 (H:Asks M A s κ mem le) (hm:∀x,x∈(arrOf st).toList->mem x) (hk:kindOf st=κ) (hf:failedOf st=none) (hp:pendingOf st= #[]) (h1:1<=(arrOf st).size) {Q:Unit->SortSt->Prop} (q:∀st',(arrOf st').toList.Perm (arrOf st).toList->(arrOf st').toList.Pairwise le->failedOf st'=none->Q () st'):wpS M A E s sortRuns' Q st:=by
 rw[sortRuns'_eq]
 refine wpS_bind (wpS_get ?_)
 dsimp only
 have R0:Runs κ le (arrOf st) [] (arrOf st).toList st:=⟨hk,hf,by simp,.refl _,fun R hR=>(nomatch hR),fun i=>by rw[hp];simp⟩
 refine wpS_bind (wpS_mono (wpS_forRange (I:=fun i (c:Option Unit×Nat) st'=>c.1=none/\∃Rs rest,Runs κ le (arrOf st) Rs rest st'/\c.2=Rs.flatten.length/\(i<=c.2\/(arrOf st).size<=c.2)) (Q:=fun (c:Option Unit×Nat) st'=>c.1=none/\∃Rs rest,Runs κ le (arrOf st) Rs rest st'/\c.2=Rs.flatten.length/\(arrOf st).size<=c.2) ?_ ?_ ⟨rfl,[],_,R0,rfl,.inl (Nat.zero_le _)⟩) ?_)
 ·rintro i ⟨r,lo⟩ st1 _ hi ⟨rfl,Rs,rest,R1,rfl,hl⟩
  dsimp only at hl ⊢
  by_cases c:Rs.flatten.length>=(arrOf st).size
  ·rw[if_pos c]
   exact wpS_pure ⟨rfl,Rs,rest,R1,rfl,c⟩
  rw[if_neg c]
  have hs1:(arrOf st1).size=(arrOf st).size:=by have:=R1.perm.length_eq;simpa using this
  have hm1:∀x,x∈(arrOf st1).toList->mem x:=fun x hx=>hm x (R1.perm.mem_iff.mp hx)
  have B0:SB κ (arrOf st1) Rs.flatten.length (arrOf st1).size (pendingOf st1) st1:=⟨R1.kind,R1.fail,rfl,Array.Perm.refl _,fun _ _=>rfl⟩
  refine wpS_bind (kQo H hm1 B0 (by omega) (by omega) (Nat.le_refl _) fun n st2 B2 n1 n2 S2=> ?_)
  dsimp only
  by_cases cm:n<minRun' (arrOf st).size (arrOf st).size 0
  ·rw[if_pos cm]
   (refine wpS_bind (wpS_lift (wpAny_rule ⟨rfl,?_⟩)))
   have hq1:n<=min ((arrOf st).size-Rs.flatten.length) (minRun' (arrOf st).size (arrOf st).size 0):=by omega
   have hq2:min ((arrOf st).size-Rs.flatten.length) (minRun' (arrOf st).size (arrOf st).size 0)<=(arrOf st).size-Rs.flatten.length:=Nat.min_le_left ..
   generalize min ((arrOf st).size-Rs.flatten.length) (minRun' (arrOf st).size (arrOf st).size 0)=n3 at hq1 hq2 ⊢
   refine wpS_bind (kJq H hm1 B2 n1 hq1 (by omega) (Nat.le_refl _) S2 fun st3 B3 S3=> ?_)
   rw[if_neg (by decide)]
   obtain⟨R,r3,hRl,hRs,R3⟩:=R1.add rfl B3 (by omega) S3
   have hR1:1<=R.length:=by omega
   refine wpS_bind (wpS_get ?_)
   cases hb:(pendingOf st3).back? with
   | none=>
    rw[<-hRl]
    exact wpS_bind (wpS_modify (wpS_pure ⟨rfl,_,_,R3.push hRs hR1,by simp,by dsimp only;omega⟩))
   | some x=>
    obtain⟨x1,x2,x3⟩:=x
    dsimp only
    refine wpS_bind (wpS_mono (wpS_forRange (I:=fun _ (c:Option Unit×Unit) st'=>c=(none,())/\∃Rs',Runs κ le (arrOf st) Rs' (R++r3) st'/\Rs'.flatten.length=Rs.flatten.length) (Q:=fun (c:Option Unit×Unit) st'=>c=(none,())/\∃Rs',Runs κ le (arrOf st) Rs' (R++r3) st'/\Rs'.flatten.length=Rs.flatten.length) ?_ (fun _ _ z=>z) ⟨rfl,Rs,R3,rfl⟩) ?_)
    ·rintro i' c st4 _ hi' ⟨rfl,Rs4,R4,hl4⟩
     refine wpS_bind (wpS_get ?_)
     have hsz:=R4.size
     by_cases c:(pendingOf st4).size>1
     ·rw[if_pos c,Array.getElem?_eq_getElem (by omega)]
      dsimp only
      split
      ·exact wpS_pure ⟨rfl,Rs4,R4,hl4⟩
      ·refine wpS_bind (R4.merge H hm (by omega) fun Rs' st' R' e1 e2=> ?_)
       rw[if_neg (by decide)]
       exact wpS_pure ⟨rfl,Rs',R',by omega⟩
     ·rw[if_neg c]
      exact wpS_pure ⟨rfl,Rs4,R4,hl4⟩
    ·rintro c st4 ⟨rfl,Rs4,R4,hl4⟩
     dsimp only
     have R5:=fun pw:Nat=>R4.pw (k:=(pendingOf st4).size-1) (f:=fun x=>(x.1,x.2.1,pw)) fun _=>rfl
     refine wpS_bind (wpS_modify (wpS_bind (wpS_modify ?_)))
     rw[<-hl4,<-hRl]
     exact wpS_pure ⟨rfl,_,_,(R5 _).push hRs hR1,by simp,by dsimp only;omega⟩
  ·rw[if_neg cm]
   obtain⟨st3,rfl⟩:∃x,x=st2:=⟨_,rfl⟩
   have B3:=B2
   have S3:=S2
   obtain⟨R,r3,hRl,hRs,R3⟩:=R1.add rfl B3 (by omega) S3
   have hR1:1<=R.length:=by omega
   refine wpS_bind (wpS_get ?_)
   cases hb:(pendingOf st3).back? with
   | none=>
    rw[<-hRl]
    exact wpS_bind (wpS_modify (wpS_pure ⟨rfl,_,_,R3.push hRs hR1,by simp,by dsimp only;omega⟩))
   | some x=>
    obtain⟨x1,x2,x3⟩:=x
    dsimp only
    refine wpS_bind (wpS_mono (wpS_forRange (I:=fun _ (c:Option Unit×Unit) st'=>c=(none,())/\∃Rs',Runs κ le (arrOf st) Rs' (R++r3) st'/\Rs'.flatten.length=Rs.flatten.length) (Q:=fun (c:Option Unit×Unit) st'=>c=(none,())/\∃Rs',Runs κ le (arrOf st) Rs' (R++r3) st'/\Rs'.flatten.length=Rs.flatten.length) ?_ (fun _ _ z=>z) ⟨rfl,Rs,R3,rfl⟩) ?_)
    ·rintro i' c st4 _ hi' ⟨rfl,Rs4,R4,hl4⟩
     refine wpS_bind (wpS_get ?_)
     have hsz:=R4.size
     by_cases c:(pendingOf st4).size>1
     ·rw[if_pos c,Array.getElem?_eq_getElem (by omega)]
      dsimp only
      split
      ·exact wpS_pure ⟨rfl,Rs4,R4,hl4⟩
      ·refine wpS_bind (R4.merge H hm (by omega) fun Rs' st' R' e1 e2=> ?_)
       rw[if_neg (by decide)]
       exact wpS_pure ⟨rfl,Rs',R',by omega⟩
     ·rw[if_neg c]
      exact wpS_pure ⟨rfl,Rs4,R4,hl4⟩
    ·rintro c st4 ⟨rfl,Rs4,R4,hl4⟩
     dsimp only
     have R5:=fun pw:Nat=>R4.pw (k:=(pendingOf st4).size-1) (f:=fun x=>(x.1,x.2.1,pw)) fun _=>rfl
     refine wpS_bind (wpS_modify (wpS_bind (wpS_modify ?_)))
     rw[<-hl4,<-hRl]
     exact wpS_pure ⟨rfl,_,_,(R5 _).push hRs hR1,by simp,by dsimp only;omega⟩
 ·rintro⟨r,lo⟩ st1 ⟨rfl,Rs,rest,R1,hlo,hl⟩
  refine⟨rfl,Rs,rest,R1,hlo,?_⟩
  rw[Nat.zero_max] at hl
  omega
 ·rintro⟨r,lo⟩ st1 ⟨rfl,Rs,rest,R1,hlo,hl⟩
  dsimp only at hlo hl ⊢
  have hL:=R1.len
  refine wpS_bind (wpS_mono (wpS_forRange (I:=fun i (c:Option Unit×Unit) st'=>c=(none,())/\∃Rs,Runs κ le (arrOf st) Rs rest st'/\Rs.flatten.length=lo/\Rs.length<=max 1 ((arrOf st).size-i)) (Q:=fun (c:Option Unit×Unit) st'=>c=(none,())/\∃Rs,Runs κ le (arrOf st) Rs rest st'/\Rs.flatten.length=lo/\Rs.length<=1) ?_ ?_ ⟨rfl,Rs,R1,hlo.symm,by have:=kQ0 fun R hR=>(R1.srt R hR).2;omega⟩) ?_)
  ·rintro i c st2 _ hi ⟨rfl,Rs2,R2,hl2,hn2⟩
   refine wpS_bind (wpS_get ?_)
   have hsz:=R2.size
   by_cases c:(pendingOf st2).size<=1
   ·rw[if_pos c]
    exact wpS_pure ⟨rfl,Rs2,R2,hl2,by omega⟩
   ·rw[if_neg c]
    refine wpS_bind (R2.merge H hm (ite_lt (by omega) (by omega)) fun Rs' st' R' e1 e2=> ?_)
    rw[if_neg (by decide)]
    exact wpS_pure ⟨rfl,Rs',R',by omega,by omega⟩
  ·rintro c st2 ⟨rfl,Rs2,R2,hl2,hn2⟩
   exact⟨rfl,Rs2,R2,hl2,by omega⟩
  ·rintro c st2 ⟨rfl,Rs2,R2,hl2,hn2⟩
   dsimp only
   have hr:rest=[]:=List.length_eq_zero_iff.mp (by omega)
   refine wpS_pure (q st2 R2.perm ?_ R2.fail)
   rw[R2.arr,hr,List.append_nil]
   cases Rs2 with
   | nil=>simp at hl2;omega
   | cons R Rs3=>
    obtain rfl:Rs3=[]:=by simpa using hn2
    simp
    exact (R2.srt R (by simp)).1
end
end L3
namespace L3
open PySem PySem.Spec PyProof.Rows L2 PySem.W
section
variable {prog:Program} {w:World} {A:Around} {E:Value->Shared->Prop} {s:Shared}
theorem kU9 {a n:Nat} {b:Bool} {es:List (TKey×Addr)} (ho:s.heap.get? a=some (seqObj "list" (List.toArray (es.map fun e=>Value.ref e.2)) n)) (hu:A.units+6<cLine) (h:∀e,e∈es->(jJk prog w).is s.heap e.1 e.2/\kJ9 e.1 b/\intT e.1=true) (hlt:∀e,e∈es->∀e',e'∈es->(ltK e.1 e'.1).isSome=true) (h64:es.length<=16000000) {P:PySem.Fin->Shared->Prop}
  (k:∀(es':List (TKey×Addr)) (h':Heap) (c:Nat),es'.Perm es->es'.Pairwise (fun x y=>ltK y.1 x.1≠some true)->h'.get? a=some (seqObj "list" (List.toArray (es'.map fun e=>Value.ref e.2)) c)->(∀p o,p≠a->s.heap.get? p=some o->h'.get? p=some o)->P (.done (.ret .none)) {s with heap:=h'}):wpAny (model prog w) A (Builtin.«list.sort» ⟨[.ref a],[]⟩) P E s:=by
 (have ha:a<s.heap.objs.size:=Heap.lt_size ho)
 have hlen:(es.map fun e=>Value.ref e.2).length=es.length:=List.length_map ..
 rw[list_sort_plain]
 (refine wpAny_bind (listItems_at ho rfl ?_))
 refine wpAny_bind (listUpdate_at ho rfl ?_ (by rw[List.size_toArray,hlen,sizeLine_eq];omega) (Nat.zero_le _))
 (obtain⟨e1,ho1⟩:∃e1,(s.heap.update a (Obj.mapSeq fun _=>(#[]:Array Value))).get? a=some (seqObj "list" #[] e1):=⟨_,get?_update_seq ho fun _=> #[]⟩)
 (refine wpAny_bind (seqEpoch_at ho1 rfl ?_))
 refine wpAny_bind (wpAny_newTuple ?_ (by show (es.map fun e=>Value.ref e.2).length<=_;rw[hlen,sizeLine_eq];omega))
 (refine wpAny_bind (wpAny_newList ?_ (Nat.zero_le _)))
 refine wpAny_holding ?_
 generalize hg:((s.heap.update a (Obj.mapSeq fun _=>(#[]:Array Value))).push (seqObj "tuple" (List.toArray (es.map fun e=>Value.ref e.2)) 0)).push (seqObj "list" #[] 0)=h1
 refine (show wpAny (model prog w) A _ P E {s with heap:=h1} from ?_)
 have oth:∀p o,p≠a->s.heap.get? p=some o->h1.get? p=some o:=by
  intro p o hp e
  rw[<-hg]
  exact Heap.get?_push_of_some _ (Heap.get?_push_of_some _ ((Heap.get?_update_ne _ _ _ _ hp).trans e))
 have ho6:h1.get? a=some (seqObj "list" #[] e1):=by
  rw[<-hg]
  exact Heap.get?_push_of_some _ (Heap.get?_push_of_some _ ho1)
 have tk:jYz s.heap h1:=by
  intro p o e hc
  refine oth p o ?_ e
  rintro rfl
  rw[ho] at e;cases e
  exact absurd hc (show ¬ Value.type "list"=Value.type "tuple" by decide)
 have hk1:∀e,e∈es->(jJk prog w).is h1 e.1 e.2/\kJ9 e.1 b/\intT e.1=true:=fun e he=>⟨jVg tk (h e he).1,(h e he).2⟩
 have fin:∀(out:List (TKey×Addr)),out.Perm es->out.Pairwise (fun x y=>ltK y.1 x.1≠some true)->∀st':SortSt,(arrOf st').map (·.2)=List.toArray (out.map fun e=>Value.ref e.2)->failedOf st'=none->
   wpAny (model prog w) A (do
    let touched:=(<-seqEpoch a) != e1
    Builtin.List.listUpdate (.ref a) fun _=>(arrOf st').map (·.2)
    if let some e:=failedOf st' then rule "list.sort.comparison-raised"; throw e
    if (touched) then rule "list.sort.modified"; raiseError "ValueError" "list modified during sort"
    ret .none) P E {s with heap:=h1}:=by
  intro out hp hs st' hout hf
  rw[hout,hf]
  have hol:out.length=es.length:=hp.length_eq
  refine wpAny_bind (seqEpoch_at (s:={s with heap:=h1}) ho6 rfl ?_)
  refine wpAny_bind (listUpdate_at (s:={s with heap:=h1}) ho6 rfl ?_ (Nat.zero_le _) (by rw[List.size_toArray,List.length_map,hol,sizeLine_eq];omega))
  (simp only[bne_self_eq_false,Bool.false_eq_true,if_false])
  refine wpAny_pure (k out _ _ hp hs (get?_update_seq ho6 fun _=>List.toArray (out.map fun e=>Value.ref e.2)) fun p o hpa e=>(Heap.get?_update_ne _ _ _ _ hpa).trans (oth p o hpa e))
 dsimp only
 by_cases h2:(List.toArray (es.map fun e=>Value.ref e.2)).size<2
 ·rw[if_pos h2,if_pos h2]
  refine wpAny_bind (wpAny_pure ?_)
  rw[StateT.run_pure]
  refine wpAny_bind (wpAny_pure ?_)
  refine fin es (.refl _) ?_ _ ?_ rfl
  ·rw[List.size_toArray,hlen] at h2
   match es,h2 with
   | [],_=>exact .nil
   | [_],_=>exact List.pairwise_singleton _ _
  ·apply Array.toList_inj.mp
   show (((List.toArray (es.map fun e=>Value.ref e.2)).zip (List.toArray (es.map fun e=>Value.ref e.2))).map (·.2)).toList=_
   rw[Array.toList_map,ksk_zip,List.map_snd_zip (Nat.le_refl _)]
 ·rw[if_neg h2,if_neg h2]
  rw[List.size_toArray,hlen] at h2
  refine wpAny_bind (qQ5 (s:={s with heap:=h1}) hk1 (by omega) ?_)
  let f:TKey×Addr->Keyed:=fun e=>(Value.ref e.2,Value.ref e.2)
  let mem:Keyed->Prop:=fun x=>∃e,e∈es/\x=f e
  let le:Keyed->Keyed->Prop:=fun x y=>∀e e',e∈es->e'∈es->x=f e->y=f e'->ltK e'.1 e.1≠some true
  have one:∀e e',e∈es->e'∈es->f e=f e'->e.1=e'.1:=fun e e' he he' z=>by
   have z1:Value.ref e.2=Value.ref e'.2:=congrArg Prod.fst z
   have z2:e.2=e'.2:=by cases e;cases e';cases z1;rfl
   have a1:=(hk1 e he).1
   rw[z2] at a1
   exact (jJk prog w).inj a1 (hk1 e' he').1
  have le_iff:∀e e',e∈es->e'∈es->(le (f e) (f e')↔ltK e'.1 e.1≠some true):=fun e e' he he'=>
   ⟨fun z=>z e e' he he' rfl rfl,fun z d d' hd hd' q q'=>by rw[<-one e d he hd q,<-one e' d' he' hd' q'];exact z⟩
  haveI:∀x y,Decidable (le x y):=fun x y=>Classical.propDecidable _
  have HA:Asks (model prog w) A {s with heap:=h1} (tuples' b) mem le:=by
   refine⟨?_,?_,?_⟩
   ·rintro x y ⟨e,he,rfl⟩ ⟨e',he',rfl⟩ E' Q hQ
    obtain⟨c,hc⟩:=Option.isSome_iff_exists.mp (hlt e he e' he')
    refine ask_ok (s:={s with heap:=h1}) hu (hk1 e he).1 (hk1 e' he').1 hc (hk1 e he).2.1 (hk1 e' he').2.1 ?_
    have:(!decide (le (f e') (f e)))=c:=by
     by_cases z:le (f e') (f e)
     ·rw[decide_eq_true z]
      have:=(le_iff e' e he' he).mp z
      rw[hc] at this
      cases c with
      | false=>rfl
      | true=>exact absurd rfl this
     ·rw[decide_eq_false z]
      cases c with
      | true=>rfl
      | false=>exact absurd ((le_iff e' e he' he).mpr (by rw[hc];simp)) z
    rw[this] at hQ
    exact hQ
   ·rintro x y ⟨e,he,rfl⟩ ⟨e',he',rfl⟩
    rw[le_iff e e' he he',le_iff e' e he' he]
    by_cases z:ltK e'.1 e.1=some true
    ·right
     intro z2
     have:=kQi z z2
     rw[show ltK e'.1 e'.1=some false from kUe _] at this
     cases this
    ·exact .inl z
   ·rintro x y z ⟨e,he,rfl⟩ ⟨e',he',rfl⟩ ⟨d,hd,rfl⟩ h1' h2'
    rw[le_iff e e' he he'] at h1'
    rw[le_iff e' d he' hd] at h2'
    rw[le_iff e d he hd]
    intro q
    by_cases eqk:d.1=e'.1
    ·rw[eqk] at q;exact h1' q
    ·obtain⟨c,hc⟩:=Option.isSome_iff_exists.mp (hlt d hd e' he')
     cases c with
     | true=>exact h2' hc
     | false=>
      have:=kord.neg eqk hc
      exact h1' (kQi this q)
  have hz:((List.toArray (es.map fun e=>Value.ref e.2)).zip (List.toArray (es.map fun e=>Value.ref e.2))).toList=es.map f:=by
   rw[ksk_zip,List.zip_map']
  have key:wpS (model prog w) A E {s with heap:=h1} sortRuns' (fun _ st'=>∃es':List (TKey×Addr),es'.Perm es/\es'.Pairwise (fun x y=>ltK y.1 x.1≠some true)/\(arrOf st').map (·.2)=List.toArray (es'.map fun e=>Value.ref e.2)/\failedOf st'=none) (SortSt.mk' (tuples' b) ((List.toArray (es.map fun e=>Value.ref e.2)).zip (List.toArray (es.map fun e=>Value.ref e.2))) #[] 7 none):=by
   refine kK3 HA (fun x hx=> ?_) rfl rfl rfl ?_ fun st' p1 p2 p3=> ?_
   ·have hx':x∈es.map f:=by rw[<-hz];exact hx
    obtain⟨e,he,rfl⟩:=List.mem_map.mp hx'
    exact⟨e,he,rfl⟩
   ·show 1<=((List.toArray (es.map fun e=>Value.ref e.2)).zip (List.toArray (es.map fun e=>Value.ref e.2))).size
    rw[<-Array.length_toList,hz,List.length_map];omega
   ·obtain⟨es',hp,he⟩:=jYf p1 es hz
    refine⟨es',hp,?_,?_,p3⟩
    ·rw[he,List.pairwise_map] at p2
     exact p2.imp_of_mem fun ha hb z=>(le_iff _ _ (hp.mem_iff.mp ha) (hp.mem_iff.mp hb)).mp z
    ·apply Array.toList_inj.mp
     rw[Array.toList_map,he,List.map_map]
     rfl
  unfold wpS at key
  refine wpAny_bind (wpAny_mono key ?_ fun _ _ x=>x)
  rintro⟨⟨⟩,st'⟩ s' ⟨rfl,es',hp,hs,har,hf⟩
  exact fin es' hp hs st' har hf
end
section
variable {prog:Program} {w:World} {A:Around} {E:Value->Shared->Prop} {s:Shared}
theorem kJv {l:Addr} {b:Bool} {es:List (TKey×Addr)} {Q:Value->Shared->Prop} (hl:s.heap.IsList l (List.toArray (es.map fun e=>Value.ref e.2))) (hu:A.units+20<cLine) (h:∀e,e∈es->(jJk prog w).is s.heap e.1 e.2/\kJ9 e.1 b/\intT e.1=true) (hlt:∀e,e∈es->∀e',e'∈es->(ltK e.1 e'.1).isSome=true) (hn:es.length<=1000000)
  (k:∀(es':List (TKey×Addr)) (h':Heap) (D c:Nat),es'.Perm es->es'.Pairwise (fun x y=>ltK y.1 x.1≠some true)->s.heap.objs.size<=D->h'.get? D=some (seqObj "list" (List.toArray (es'.map fun e=>Value.ref e.2)) c)->(∀p o,s.heap.get? p=some o->h'.get? p=some o)->Q (.ref D) {s with heap:=h'}):wpAny (model prog w) A (call (.builtin "sorted") [.ref l]) Q E s:=by
 (refine Calls.call_function_entry kind_sorted plain_sorted entry_sorted (args_sorted1 _) ?_)
 unfold Builtin.«sorted»
 (refine wpAny_bind (m:=checkCount "sorted" 1 1 _) (wpAny_pure ?_))
 refine wpAny_bind (collect_list hl ?_ (by rw[List.length_map,sizeLine_eq];omega))
 have kp:∀p o,s.heap.get? p=some o->((s.heap.push (seqObj "list" #[] 0)).update s.heap.objs.size (Obj.mapSeq (· ++(es.map fun e=>Value.ref e.2).toArray))).get? p=some o:=fun p o e=>
  (Heap.get?_update_ne _ _ _ _ (Nat.ne_of_lt (Heap.lt_size e))).trans (Heap.get?_push_of_some _ e)
 have big:s.heap.objs.size<=((s.heap.push (seqObj "list" #[] 0)).update s.heap.objs.size (Obj.mapSeq (· ++(es.map fun e=>Value.ref e.2).toArray))).objs.size:=by
  rw[Heap.size_update,size_push'];omega
 generalize (s.heap.push (seqObj "list" #[] 0)).update s.heap.objs.size (Obj.mapSeq (· ++(es.map fun e=>Value.ref e.2).toArray))=g at kp big ⊢
 refine wpAny_bind (wpAny_newList ?_ (by rw[List.length_map,sizeLine_eq];omega))
 have hoL:(g.push (seqObj "list" (List.toArray (es.map fun e=>Value.ref e.2)) 0)).get? g.objs.size=some (seqObj "list" (List.toArray (es.map fun e=>Value.ref e.2)) 0):=Heap.get?_push_size _ rfl
 refine wpAny_bind (wpAny_holding (wpAny_call_entry slot_list_sort ⟨_,hoL,rfl⟩ entry_list_sort ?_ (args_list_sort _)))
 refine kU9 (s:={s with heap:=g.push (seqObj "list" (List.toArray (es.map fun e=>Value.ref e.2)) 0)}) (b:=b) hoL (by rw[Around.in1_units,Around.in1_units];omega) (fun e he=> ?_) hlt (by omega) fun es' h' c pe' so hD oth=> ?_
 ·exact⟨jVg (fun b ob e _=>Heap.get?_push_of_some _ (kp b ob e)) (h e he).1,(h e he).2⟩
 ·refine⟨_,rfl,wpAny_pure ⟨_,rfl,k es' h' _ c pe' so big hD fun q ob e=>oth q ob ?_ (Heap.get?_push_of_some _ (kp q ob e))⟩⟩
  exact Nat.ne_of_lt (Nat.lt_of_lt_of_le (Heap.lt_size e) big)
end
section
variable {X:Cx}
noncomputable def qKl:List T->Gp->VK3->Prop:=fun xs G Q=>∃(x:T) (b:Bool) (tks:List (List T×TKey)),xs=[x]/\jKw G x=some (tks.map fun e:List T×TKey=> .tup e.1)/\tks.length<=1000000/\(∀e,e∈tks->SKey b e.1 e.2)/\(∀e,e∈tks->∀e',e'∈tks->(ltK e.2 e'.2).isSome=true)/\
 ∀(p:Addr) (kys:List (List T×TKey)),G p=none->kys.Perm tks->kys.Pairwise (fun x y=>ltK y.2 x.2≠some true)->Q (.ref p) (gup G p (.lst (kys.map fun e=> .tup e.1)))
theorem qUx (hu:X.A.units+20<cLine):Call3 X (.builtin "sorted") qKl:=by
 rintro pins s τ G H xs us Q ⟨σ,I,hs,hg⟩ ⟨as,ras,rvs⟩ ⟨x,b,tks,ex,hx,hn,hk,hlt,q⟩
 subst ex
 obtain⟨v,rfl,rv⟩:=jUm ras
 obtain⟨u,rfl,ru⟩:=rvs.one
 obtain⟨pa,vs,rfl,hq,r⟩:=jQo hg rv hx
 cases ru
 obtain⟨its,rvv,pl,hz⟩:=I.list hq
 obtain⟨tb,t1,t2,t3,t4⟩:=kV4 hk r rvv
 have tl:tb.length=tks.length:=by rw[<-t1,List.length_map]
 have hmem:∀e,e∈tb->e.1∈tks:=fun e he=>by rw[<-t1];exact List.mem_map.mpr ⟨e,he,rfl⟩
 have hl:s.heap.IsList pa (List.toArray ((tb.map fun e=>(e.1.2,e.2)).map fun e=>Value.ref e.2)):=by
  have:=pl.isList
  rw[t3] at this
  rw[List.map_map];exact this
 refine kJv (b:=b) hl hu (fun e he=> ?_) (fun e he e' he'=> ?_) (by rw[List.length_map];omega) fun es h3 D c hp so hD hoD kp=> ?_
 ·obtain⟨y,hy,rfl⟩:=List.mem_map.mp he
  exact⟨jXi I.hok (t4 y hy).1,(hk _ (hmem y hy)).2⟩
 ·obtain⟨y,hy,rfl⟩:=List.mem_map.mp he
  obtain⟨y',hy',rfl⟩:=List.mem_map.mp he'
  exact hlt _ (hmem y hy) _ (hmem y' hy')
 obtain⟨tb',p1,p2⟩:=jYf hp tb rfl
 have fr:=I.hok.fresh hD
 have I3:=I.laid (a:=D) (o:= .lst (tb'.map fun e=>V.ref e.2)) (h':=h3) (t':=s.toks) kp hD ⟨by rw[List.length_map,sizeLine_eq,p1.length_eq];omega,tb'.map fun e=>Value.ref e.2,c,jZe tb',by rw[p2,List.map_map] at hoD;exact hoD⟩
 have ext:Ext H (upd H D (.lst (tb'.map fun e=>V.ref e.2))):= .upd (.none fr)
 refine⟨.ref D,_,_,ext,⟨σ,I3,hs.mono ext,hg.lstNew (kXh tb' fun e he=>(t4 e (p1.mem_iff.mp he)).2) (.none fr)⟩,⟨.ref D,rfl,rfl⟩,?_⟩
 have:=q D (tb'.map (·.1)) (hg.fresh fr) (by rw[<-t1];exact p1.map _) (by rw[p2,List.pairwise_map] at so;rw[List.pairwise_map];exact so)
 rw[List.map_map] at this
 exact this
end
end L3
namespace L3
open PySem PySem.Spec PyProof.Rows L2
section
variable {X:Cx}
def kQb:R3:=fun x y G Q=>∃p xs,y= .ref p/\G p=some (.lst xs)/\eqOk x=true/\jYq xs=true/\Q (.bl (!(tds xs).any fun z=>PyData.eqv z (td x))) G
theorem qJg (hu:X.A.units+64<cLine):Op3 X (compareOp .NotIn) kQb:=by
 rintro pins s τ G H x y v u Q ⟨σ,I,hs,hg⟩ ⟨a,ra,rv⟩ ⟨b,rb,ru⟩ ⟨p,xs,ey,hp,ox,oxs,q⟩
 subst ey
 cases (show b= .ref p from rb)
 cases ru
 obtain⟨vs,h1,h2⟩:=hg.lst hp
 obtain⟨its,r1,⟨o,n,ho,hc,_,hd⟩,_⟩:=I.list (.of h1)
 simp only[eqOk,jYq,Bool.and_eq_true,decide_eq_true_eq] at ox oxs
 obtain⟨as,r3⟩:=jVk I xs oxs.1.1 h2 r1
 obtain⟨bs,r4⟩:=jZ5 I x ox.1.1 ra rv
 have hd':=ox.2
 exact SeqAt.notIn_list_reads (.list ho hc hd (by simpa using r3)) r4 (by simpa[PyData.canLay0] using oxs.1.2) ox.1.2 (by have:=Nat.min_le_right (PyData.depthAll (tds xs)) (td x).depth;omega) ⟨.bl _,G,H,.refl H,⟨σ,I,hs,hg⟩,⟨.bl _,rfl,rfl⟩,q⟩
end
section
variable {prog:Program} {w:World} {A:Around} {E:Value->Shared->Prop} {s:Shared}
structure DmAt (prog:Program) (w:World) (h:Heap) (l:Addr) (ts:List Addr) (ps:List (TKey×Addr×Value)):Prop where
 li:h.IsList l (ts.map Value.ref).toArray
 len:ts.length=ps.length
 at_:∀(i:Nat) t p,ts[i]? =some t->ps[i]? =some p->IsTup h t #[.ref p.2.1,p.2.2]
 key:∀p,p∈ps->(jJk prog w).is h p.1 p.2.1
theorem DmAt.moved {h h':Heap} {l:Addr} {ts:List Addr} {ps:List (TKey×Addr×Value)} (a:DmAt prog w h l ts ps) (k:∀b o,h.get? b=some o->(o.cls= .type "tuple"\/b=l)->h'.get? b=some o):DmAt prog w h' l ts ps:=
 ⟨a.li.at fun o e=>k _ o e (.inr rfl),a.len,fun i t p e1 e2=>let ⟨o,ho,hc,r⟩:=a.at_ i t p e1 e2;⟨o,k _ o ho (.inl hc),hc,r⟩,fun p hp=>jVg (fun b o e c=>k b o e (.inl c)) (a.key p hp)⟩
def dmF (ps:List (TKey×Addr×Value)):List (TKey×Addr×Value):=ps.foldl (fun xs p=>storedH xs p.1 p.2.1 p.2.2) []
theorem qQc {xs:List (TKey×Addr×Value)} {k:TKey} {a:Addr} {v:Value}:(storedH xs k a v).length<=xs.length+1:=by
 unfold storedH
 split<;>simp
theorem kUx {ps:List (TKey×Addr×Value)} {i:Nat} {p:TKey×Addr×Value} (h:ps[i]? =some p):dmF (ps.take (i+1))=storedH (dmF (ps.take i)) p.1 p.2.1 p.2.2:=by
 unfold dmF
 rw[List.take_succ,h,List.foldl_append];rfl
theorem kJm {ps:List (TKey×Addr×Value)}:∀i,(dmF (ps.take i)).length<=i
 | 0=>by simp[dmF]
 | i+1=>by
  cases h:ps[i]? with
  | none=>
   have:=kJm (ps:=ps) i
   have hl:ps.length<=i:=List.getElem?_eq_none_iff.mp h
   rw[List.take_of_length_le (by omega)]
   rw[List.take_of_length_le hl] at this
   omega
  | some p=>
   rw[kUx h]
   have:=kJm (ps:=ps) i
   have:=qQc (xs:=dmF (ps.take i)) (k:=p.1) (a:=p.2.1) (v:=p.2.2)
   omega
theorem kY4 {h h':Heap} {d:Addr} {xs:List (TKey×Addr×Value)} (hd:h.DictOfH (jJk prog w) d xs) (k:∀o,h.get? d=some o->h'.get? d=some o) (tk:jYz h h'):h'.DictOfH (jJk prog w) d xs:=by
 obtain⟨o,es,ep,h1,h2,h3,h4,h5,h6⟩:=hd
 exact⟨o,es,ep,k o h1,h2,h3,h4,fun x hx=>jVg tk (h5 x hx),h6⟩
theorem qUo {R:Result->Shared->Prop} {it l d:Addr} {ts:List Addr} {ps:List (TKey×Addr×Value)} (hu:(jJk prog w).room A.in1) (hh:A.handled=none) (dl:d≠l) (di:d≠it) (li:l≠it) (hs:ps.length<=sizeLine):
  ∀(k i:Nat) (s:Shared) (j:Int) (jt:Tok),ps.length-i=k->i<=ps.length->DmAt prog w s.heap l ts ps->s.heap.IsListIter it l i->s.heap.DictOfH (jJk prog w) d (dmF (ps.take i))->
   (∀h' t',h'.DictOfH (jJk prog w) d (dmF ps)->(∀b o,b≠d->b≠it->s.heap.get? b=some o->h'.get? b=some o)->R (.ok (.ret .none)) {s with heap:=h',toks:=t'})->
   codeAny (model prog w) A (.builtin "dict.update.loop" ⟨[.ref d,.ref it,.int j jt,.none],[]⟩) R s:=by
 intro k
 induction k with
 | zero=>
  intro i s j jt hk hi a hit hd hR
  have hin:i=ps.length:=by omega
  subst hin
  refine codeAny_builtin jXw ?_
  rw[Around.under_plainId jQq _]
  refine (show wpAny _ A.in1 (pyNext (.ref it) >>= _) _ _ s from ?_)
  refine wpAny_bind (wpAny_pyNext_list_end (A:=A.in1) (by simpa using hh) hit a.li (by have:=a.len;simp;omega) fun h' kp=> ?_)
  refine (show wpAny _ A.in1 (Builtin.Dict.addKeywords d [] >>= _) _ _ _ from wpAny_bind (wpAny_pure (wpAny_pure ?_)))
  rw[List.take_length] at hd
  have tne:∀b o,s.heap.get? b=some o->o.cls= .type "tuple"->b≠it:=fun b o ho hc=>by
   rintro rfl
   obtain⟨o',ho',hc',_⟩:=hit
   rw[ho] at ho';cases ho'
   rw[hc] at hc'
   exact absurd hc' (by decide)
  exact hR h' s.toks (kY4 hd (fun o e=>kp d o di e) fun b o e c=>kp b o (tne b o e c) e) fun b o _ c1 e=>kp b o c1 e
 | succ k ih=>
  intro i s j jt hk hi a hit hd hR
  have hlt:i<ps.length:=by omega
  have hlt2:i<ts.length:=by rw[a.len];exact hlt
  have hpi:ps[i]? =some ps[i]:=List.getElem?_eq_getElem hlt
  refine codeAny_builtin jXw ?_
  rw[Around.under_plainId jQq _]
  refine (show wpAny _ A.in1 (pyNext (.ref it) >>= _) _ _ s from ?_)
  refine wpAny_bind (wpAny_pyNext_list_item (A:=A.in1) hit a.li (x:= .ref ts[i]) (by simp[hlt2]) fun h' hit' sb=> ?_)
  have tne:∀b o,s.heap.get? b=some o->o.cls= .type "tuple"->b≠it:=fun b o ho hc=>by
   rintro rfl
   obtain⟨o',ho',hc',_⟩:=hit
   rw[ho] at ho';cases ho'
   rw[hc] at hc'
   exact absurd hc' (by decide)
  have kp1:∀b o,s.heap.get? b=some o->(o.cls= .type "tuple"\/b=l)->h'.get? b=some o:=fun b o e z=>(sb.2 b (z.elim (fun hc=>tne b o e hc) fun q=>by rw[q];exact li)).trans e
  have a':=a.moved kp1
  have hd':h'.DictOfH (jJk prog w) d (dmF (ps.take i)):=kY4 hd (fun o e=>(sb.2 d di).trans e) fun b o e c=>kp1 b o e (.inl c)
  have tp':IsTup h' ts[i] #[.ref ps[i].2.1,ps[i].2.2]:=a'.at_ i _ _ (List.getElem?_eq_getElem hlt2) hpi
  have hl':(dmF (ps.take i)).length<=sizeLine:=by have:=kJm (ps:=ps) i;omega
  refine wpAny_bind (wpAny_holding (wpAny_bind (wpAny_tryCatch (kY6 (s:={s with heap:=h'}) tp' (wpAny_holding (wpAny_dictSet_heap (s:={s with heap:=h'}) (hsz:=hl') (knd:=jJk prog w) hu (a'.key _ (List.getElem_mem hlt)) hd' (fun h2 hd2 sb2=> ?_)))))))
  rw[<-kUx hpi] at hd2
  have dne:∀b o,h'.get? b=some o->o.cls= .type "tuple"->b≠d:=fun b o ho hc=>by
   rintro rfl
   obtain⟨o',_,_,ho',hc',_⟩:=hd'
   rw[ho'] at ho;cases ho
   rw[hc'.1] at hc
   exact absurd hc (by decide)
  refine wpAny_pure ⟨plainId_quiet jQq _,ih (i+1) _ _ _ (by omega) hlt (a'.moved fun b o e z=>(sb2.2 b (z.elim (fun hc=>dne b o e hc) fun q=>by rw[q];exact dl.symm)).trans e) (hit'.at fun o e=>(sb2.2 it di.symm).trans e) hd2 fun h3 t3 hd3 kp3=>hR h3 t3 hd3 fun b o c1 c2 e=>kp3 b o c1 c2 ((sb2.2 b c1).trans ((sb.2 b c2).trans e))⟩
theorem qUp {l:Addr} {ts:List Addr} {ps:List (TKey×Addr×Value)} {c:Nat} (hu:A.units+20<cLine) (hh:A.handled=none) (hl:s.heap.get? l=some {cls:= .type "list",dict:=none,data:= .seq (ts.map Value.ref).toArray c,slots:= #[]}) (a:DmAt prog w s.heap l ts ps) (hs:ps.length<=sizeLine) {Q:Value->Shared->Prop}
  (k:∀h' t',h'.DictOfH (jJk prog w) s.heap.objs.size (dmF ps)->(∀b o,s.heap.get? b=some o->h'.get? b=some o)->Q (.ref s.heap.objs.size) {s with heap:=h',toks:=t'}):
  wpAny (model prog w) A (call (.type "dict") [.ref l]) Q E s:=by
 refine callType_codes (Q₁:=fun obj s₁=>obj= .ref s.heap.objs.size/\s₁={s with heap:=s.heap.push {cls:= .type "dict",data:= .dict #[]} }) PySem.F.kt_called_dict (PySem.F.kt_typeCall_dict_1 _) PySem.F.entry_dict_init (kt_code_dict_new _ ⟨rfl,rfl⟩) ?_
 rintro obj s₁ ⟨rfl,rfl⟩
 have hn:(s.heap.push {cls:= .type "dict",data:= .dict #[]}).get? s.heap.objs.size=some {cls:= .type "dict",data:= .dict #[]}:=Heap.get?_push_size _ rfl
 have hTn:Shared.TypeIs {s with heap:=s.heap.push {cls:= .type "dict",data:= .dict #[]} } (.ref s.heap.objs.size) "dict":=⟨_,hn,rfl⟩
 refine⟨hTn,PySem.F.args_dict_init_2 _ _,?_⟩
 (unfold Builtin.«dict.__init__»)
 refine wpAny_bind ?_
 (unfold Builtin.Dict.selfAndRest)
 refine wpAny_bind (wpAny_notOrdered_dict hTn ?_)
 refine (show wpAny _ _ (pure (s.heap.objs.size,[Value.ref l])) _ _ _ from ?_)
 refine wpAny_pure ?_
 refine (show wpAny _ _ (Builtin.Dict.updateFrom "dict.__init__" s.heap.objs.size (.ref l) [] .none) _ _ _ from ?_)
 (unfold Builtin.Dict.updateFrom)
 have up:∀b o,s.heap.get? b=some o->(s.heap.push {cls:= .type "dict",data:= .dict #[]}).get? b=some o:=fun b o e=>Heap.get?_push_of_some _ e
 have hl0:=up _ _ hl
 have hTl:Shared.TypeIs {s with heap:=s.heap.push {cls:= .type "dict",data:= .dict #[]} } (.ref l) "list":=⟨_,hl0,rfl⟩
 refine wpAny_bind (wpAny_typeOf hTl ?_)
 rw[if_pos (by decide)]
 refine wpAny_bind (kKf (s:={s with heap:=s.heap.push {cls:= .type "dict",data:= .dict #[]} }) (by simpa using hh) hl0 fun g tk kp=> ?_)
 simp only[Option.isNone_none,if_true]
 refine wpAny_bind (wpAny_rule ?_)
 have kp':∀b o,s.heap.get? b=some o->g.get? b=some o:=fun b o e=>kp b o (up b o e)
 have a1:DmAt prog w g l ts ps:=a.moved fun b o e _=>kp' b o e
 refine wpAny_bind (wpAny_pyIter_list (s:={s with heap:=g,toks:=tk}) a1.li ?_)
 have hgn:=kp _ _ hn
 have gd:s.heap.objs.size<g.objs.size:=Heap.lt_size hgn
 have ll:l<s.heap.objs.size:=Heap.lt_size hl
 refine wpAny_pure ⟨plainId_quiet jQq _,qUo (A:=A.in1) (ts:=ts) (ps:=ps) (l:=l) (show A.in1.in1.units+6<cLine by rw[Around.in1_units,Around.in1_units];omega) (by simpa using hh) (Nat.ne_of_gt ll) (Nat.ne_of_lt gd) (Nat.ne_of_lt (Nat.lt_trans ll gd)) hs ps.length 0 _ _ _ (by omega) (Nat.zero_le _) (a1.moved fun b o e _=>Heap.get?_push_of_some _ e) ⟨_,Heap.get?_push_size _ rfl,rfl,rfl⟩ ?_ fun h4 t4 hd4 kp4=>⟨rfl,k h4 t4 hd4 fun b o e=>kp4 b o (Nat.ne_of_lt (Heap.lt_size e)) (Nat.ne_of_lt (Nat.lt_trans (Heap.lt_size e) gd)) (Heap.get?_push_of_some _ (kp' b o e))⟩⟩
 exact⟨_,#[],0,Heap.get?_push_of_some _ hgn,⟨rfl,rfl,rfl⟩,rfl,rfl,fun x hx=>absurd hx List.not_mem_nil,List.nodup_nil⟩
end
structure ZZ where
 e:List T
 k:TKey
 x:T
 t:Addr
 a:Addr
 v:V
 u:Value
structure ZOk (X:Cx) (H:Hp) (s:Shared) (z:ZZ):Prop where
 ke:TKeyAt H z.k z.a
 re:Rep X.K H z.x z.v
 rv:RelV z.v z.u
 tp:IsTup s.heap z.t #[.ref z.a,z.u]
theorem zz_of {X:Cx} {pins:List (Addr×Obj)} {σ:L2.St} {H:Hp} {s:Shared} (I:Inv X pins σ H s):∀ {kys:List (List T×TKey×T)} {vs:List V},(∀e,e∈kys->jQp e.1=some e.2.1)->Reps X.K H (kys.map fun e=>T.tup [.tup e.1,e.2.2]) vs->
  ∃zs:List ZZ,kys=zs.map (fun z=>(z.e,z.k,z.x))/\vs=zs.map (fun z=>V.ref z.t)/\∀z,z∈zs->ZOk X H s z
 | [],_,_,h=>by cases h;exact⟨[],rfl,rfl,fun z hz=>absurd hz List.not_mem_nil⟩
 | e::kys,_,hk,⟨v,ws,ev,r,rs⟩=>by
  subst ev
  obtain⟨a,us,e1,h1,h2⟩:=(show ∃a us,v= .ref a/\H a=some (.tup us)/\Reps X.K H [.tup e.1,e.2.2] us from r)
  subst e1
  obtain⟨x,y,rfl,r1,r2⟩:=kK4 h2
  obtain⟨b,ys,e2,h3,h4⟩:=(show ∃a us,x= .ref a/\H a=some (.tup us)/\Reps X.K H e.1 us from r1)
  subst e2
  obtain⟨zs,z1,z2,z3⟩:=zz_of I (fun e he=>hk e (List.mem_cons_of_mem _ he)) rs
  obtain⟨its,rr,tp,_⟩:=I.tuple (.of h1)
  obtain⟨u,u2,rfl,ru,rv⟩:=rr.two
  cases (show u=Value.ref b from ru)
  refine⟨⟨e.1,e.2.1,e.2.2,a,b,y,u2⟩::zs,by rw[z1];rfl,by rw[z2];rfl,fun z hz=> ?_⟩
  rcases (List.mem_cons.mp hz) with rfl | hz
  ·exact⟨jQy (hk e (List.mem_cons_self ..)) h3 h4,r2,rv,tp⟩
  ·exact z3 z hz
theorem zz_kt {X:Cx} {H:Hp} {s:Shared}:∀ {zs:List ZZ} {ws:List (TKey×V)} {xs:List (TKey×Addr×Value)},(∀z,z∈zs->ZOk X H s z)->KT H ws xs->KT H (zs.foldl (fun ws z=>putK ws z.k z.v) ws) ((zs.map fun z=>(z.k,z.a,z.u)).foldl (fun xs p=>storedH xs p.1 p.2.1 p.2.2) xs)
 | [],_,_,_,r=>r
 | z::zs,ws,xs,h,r=>by
  have hz:=h z (List.mem_cons_self ..)
  exact zz_kt (zs:=zs) (fun y hy=>h y (List.mem_cons_of_mem _ hy)) (r.put z.k hz.ke hz.rv)
theorem qKf {X:Cx} {H:Hp} {s:Shared}:∀ {zs:List ZZ} {kvs:List (TKey×T)} {ws:List (TKey×V)},(∀z,z∈zs->ZOk X H s z)->PKV X.K H kvs ws->PKV X.K H ((zs.map fun z=>(z.e,z.k,z.x)).foldl (fun kvs e=>putT kvs e.2.1 e.2.2) kvs) (zs.foldl (fun ws z=>putK ws z.k z.v) ws)
 | [],_,_,_,r=>r
 | z::zs,kvs,ws,h,r=>by
  have hz:=h z (List.mem_cons_self ..)
  exact qKf (zs:=zs) (fun y hy=>h y (List.mem_cons_of_mem _ hy)) (PKV.put r z.k hz.re)
section
variable {X:Cx}
noncomputable def qKm:List T->Gp->VK3->Prop:=fun vs G1 Q=>∃(p:Addr) (kys:List (List T×TKey×T)),vs=[.ref p]/\G1 p=some (.lst (kys.map fun e=> .tup [.tup e.1,e.2.2]))/\(∀e,e∈kys->jQp e.1=some e.2.1)/\kys.length<=1000/\∀q,G1 q=none->Q (.ref q) (gup G1 q (.dct (kys.foldl (fun kvs e=>putT kvs e.2.1 e.2.2) [])))
theorem qU0 (hc:X.calm=true) (hu:X.A.units+20<cLine):Call3 X (.type "dict") qKm:=by
 rintro pins s τ G H xs us Q ⟨σ,I,hs,hg⟩ ⟨as,ras,rvs⟩ ⟨p,kys,ex,hp,hk,hl,q⟩
 subst ex
 obtain⟨v,rfl,rv⟩:=jUm ras
 obtain⟨u,rfl,ru⟩:=rvs.one
 cases (show v= .ref p from rv)
 cases ru
 obtain⟨vs,h1,h2⟩:=hg.lst hp
 obtain⟨zs,z1,rfl,z3⟩:=zz_of I hk h2
 obtain⟨hz,its,n,r,hlen,e⟩:=I.lstM h1
 have ei:=jX0 (ts:=zs.map (·.t)) (us:=its) (by rw[List.map_map];exact r)
 subst ei
 have lk:kys.length=zs.length:=by rw[z1,List.length_map]
 have big:=I.big
 have hsl:=sizeLine_eq
 refine qUp (s:=s) (ts:=zs.map (·.t)) (ps:=zs.map fun z=>(z.k,z.a,z.u)) hu (I.ok.hd hc) e ⟨⟨_,e,rfl,_,rfl⟩,by rw[List.length_map,List.length_map],fun i t p e1 e2=> ?_,fun p hp=> ?_⟩ (by rw[List.length_map];omega) fun h' t' dd kp=> ?_
 ·rw[List.getElem?_map] at e1 e2
  cases e3:zs[i]? with
  | none=>rw[e3] at e1;cases e1
  | some z=>rw[e3] at e1 e2;cases e1;cases e2;exact (z3 z (List.mem_of_getElem? e3)).tp
 ·obtain⟨z,hz',rfl⟩:=List.mem_map.mp hp
  exact jXi I.hok (z3 z hz').ke
 ·have fr:=I.hok.fresh (Nat.le_refl s.heap.objs.size)
  have kt:=zz_kt (ws:=[]) (xs:=[]) z3 .nil
  generalize hws:zs.foldl (fun ws z=>putK ws z.k z.v) []=ws at kt
  have ext:Ext H (upd H s.heap.objs.size (.dT ws)):= .upd (.none fr)
  obtain⟨o',es,ep,d1,d2,d3,d4,d5,d6⟩:=dd
  have hwl:ws.length<=sizeLine:=by
   have l1:=Paired.length kt
   have l2:=kJm (ps:=zs.map fun z=>(z.k,z.a,z.u)) (zs.map fun z=>(z.k,z.a,z.u)).length
   rw[List.take_length] at l2
   unfold dmF at l2
   rw[List.length_map] at l2
   omega
  have I3:=I.laid (a:=s.heap.objs.size) (o:= .dT ws) (h':=h') (t':=t') kp (Nat.le_refl _) ⟨hwl,by simpa using (Nat.ne_of_gt big),_,Paired.mapP kt fun p q z=>⟨z.1,z.2.1.mono fun b ys e=>ext.tup _ _ e,z.2.2⟩,o',es,ep,d1,d2,d3,d4,d6⟩
  have pk:=qKf (kvs:=[]) (ws:=[]) z3 .nil
  rw[<-z1,hws] at pk
  exact⟨.ref _,_,_,ext,⟨σ,I3,hs.mono ext,hg.upd (.none fr) (go:= .dct _) ⟨ws,jJ3,pk.mono ext⟩⟩,⟨.ref _,rfl,rfl⟩,q _ (hg.fresh fr)⟩
end
end L3
namespace L3
open PySem PySem.Spec PyProof.Rows L2 PySem.W
section
variable {X:Cx}
noncomputable def kXo:List T->Gp->VK3->Prop:=fun xs G Q=>∃(p:Addr) (kvs:List (TKey×T)),xs=[.ref p]/\(G p=some (.dct kvs)\/G p=some (.fdc kvs))/\(∀e,e∈kvs->kKu e.1)/\∀q,G q=none->Q (.ref q) (gup G q (.dct kvs))
theorem qUz:Call3 X (.type "dict") kXo:=by
 rintro pins s τ G H xs us Q ⟨σ,I,hs,hg⟩ ⟨as,ras,rvs⟩ ⟨pa,kvs,ex,hp,hk,q⟩
 subst ex
 obtain⟨v,rfl,rv⟩:=jUm ras
 obtain⟨u,rfl,ru⟩:=rvs.one
 cases (show v= .ref pa from rv);cases ru
 obtain⟨ws,h2,ok⟩:∃ws,PKV X.K H kvs ws/\ObjOk X.prog X.w H s.heap pa (.dT ws):=by
  rcases hp with hp | hp
  ·obtain⟨ws,h1,h2⟩:=(show ∃ws,H pa=some (.dT ws)/\PKV X.K H kvs ws from hg pa _ hp)
   exact⟨ws,h2,I.hok pa _ h1⟩
  ·obtain⟨ob,ws,h1,h2⟩:=(show ∃ob ws,H pa=some (.frz ob (.dT ws))/\PKV X.K H kvs ws from hg pa _ hp)
   exact⟨ws,h2,(I.hok pa _ h1).2⟩
 obtain⟨z,hd,xs,rel,o,es,ep,ho,hc,hx,he,hn⟩:=ok
 have l1:es.size=xs.length:=by have a1:=congrArg List.length he;simpa using a1
 have l2:=Paired.length rel
 have small:∀x,x∈xs->kKu x.1/\TKeyAt H x.1 x.2.1:=fun x hx=>by
  obtain⟨i,hi⟩:=List.getElem?_of_mem hx
  have hiw:i<ws.length:=by have:=(List.getElem?_eq_some_iff.mp hi).1;omega
  obtain⟨y,k1,k2,k3,_⟩:=jQw rel (List.getElem?_eq_getElem hiw)
  rw[hi] at k1;cases k1
  have hik:i<kvs.length:=by have:=h2.length;omega
  obtain⟨w',m1,m2,_⟩:=jQw h2 (List.getElem?_eq_getElem hik)
  rw[List.getElem?_eq_getElem hiw] at m1;cases m1
  rw[<-k2,<-m2]
  exact⟨hk _ (List.getElem_mem hik),by rw[m2];exact k3⟩
 have xn:xs.Nodup:=List.Pairwise.of_map _ (fun a b hab=>fun z=>hab (by rw[z])) hn
 have xi:∀a,a∈xs->∀b,b∈xs->(jJk X.prog X.w).hash a.1=(jJk X.prog X.w).hash b.1->a=b:=fun a ha b hb e=>by
  have ek:=kXc (small a ha).1 (small b hb).1 e
  obtain⟨i,hi⟩:=List.getElem?_of_mem ha
  (obtain⟨j,hj⟩:=List.getElem?_of_mem hb)
  have hil:=(List.getElem?_eq_some_iff.mp hi).1
  have:=(List.getElem?_inj (by simpa using hil) hn).mp (show (xs.map (·.1))[i]? =(xs.map (·.1))[j]? by rw[List.getElem?_map,List.getElem?_map,hi,hj];simp[ek])
  subst this
  rw[hi] at hj;exact Option.some.inj hj
 refine kVv hd ho hc hx (by omega) (fun e hee=> ?_) fun h' o' ep' hn' hc' hx' kp=> ?_
 ·rw[he] at hee
  obtain⟨x,hxm,rfl⟩:=List.mem_map.mp hee
  obtain⟨vs,r1,r2⟩:=(small x hxm).2
  refine⟨?_,x.2.1,rfl,?_⟩
  ·have:=kQ8 (g:=entryOfKey (jJk X.prog X.w)) (fun a=>rfl) xi xn x hxm
   rw[<-he] at this
   have e2:(es.filter fun e'=>e'.hash == (entryOfKey (jJk X.prog X.w) x).hash).size=(es.toList.filter fun e'=>e'.hash == (entryOfKey (jJk X.prog X.w) x).hash).length:=by
    rw[<-Array.length_toList,Array.toList_filter]
   rw[e2];exact this
  ·obtain⟨_,its,_,ot,hot,hct,_⟩:=(show ObjOk X.prog X.w H s.heap x.2.1 (.tup vs) from I.hok _ _ r1)
   exact⟨ot,hot,hct⟩
 have fr:=I.hok.fresh (Nat.le_refl s.heap.objs.size)
 have ext:Ext H (upd H s.heap.objs.size (.dT ws)):= .upd (.none fr)
 have big:=I.big
 have I3:=I.laid (a:=s.heap.objs.size) (o:= .dT ws) (h':=h') (t':=s.toks) kp (Nat.le_refl _) ⟨z,by simpa using (Nat.ne_of_gt big),xs,Paired.mapP rel fun p q z=>⟨z.1,z.2.1.mono fun b ys e=>ext.tup _ _ e,z.2.2⟩,o',es,ep',hn',hc',hx',he,hn⟩
 exact⟨.ref _,_,_,ext,⟨σ,I3,hs.mono ext,hg.upd (.none fr) (go:= .dct kvs) ⟨ws,jJ3,h2.mono ext⟩⟩,⟨.ref _,rfl,rfl⟩,q _ (hg.fresh fr)⟩
end
end L3
namespace W
open PySem L3
local macro_rules
 | `(tactic| wp_walk using 1, $ts,*) => do
  let ls ← ts.getElems.mapM fun t => `(Lean.Parser.Tactic.simpLemma| $t:term)
  let ns ← ("tSeq tIfS jJ9 tOp rGt rLt rGe rSub L3.rI0 L3.rI rIxF tVar tC tAsg tCB jJc tNil qQo rLen rAbs rMax rIntOf gTup jKg gNil gSub jJg jY9 tRet tRetN jQr jU4 jKd tLst tTup tIf tNot tAnd tOr jVz tOrV qQb tPar jQg jV5 rMod qQn rPow rIsN rNotN kVq tTru rTru truT tUn rNeg qJ9 qJl qJn qJm qUi qUj qQ8 qQ9 at0 at1 at2 ix30 ix31 ix32 kZz kZx qUa kZ0 Option.map_some and_assoc T.int.injEq T.bl.injEq T.tup.injEq T.ref.injEq List.cons.injEq and_true true_and exists_eq_left exists_eq_left' exists_and_left exists_eq_right List.getElem?_cons_zero List.getElem?_cons_succ List.set_cons_zero List.set_cons_succ List.length_cons List.length_nil Nat.reduceAdd Option.some.injEq jJd kYp reduceCtorEq false_and exists_false exists_const Bool.true_eq Bool.not_eq_true' Bool.not_true Bool.not_false if_true if_false decide_eq_true_eq tBM jK4 qQk jKs kZr jQj GO.lst.injEq msk List.zipWith_cons_cons List.zipWith_nil_left List.zipWith_nil_right Bool.false_eq_true qK7".splitOn " ").toArray.mapM fun n => `(Lean.Parser.Tactic.simpLemma| $(Lean.mkIdent n.toName):term)
  let al:=ns++ls
  `(tactic| ((try dsimp only [$al,*]); (try simp only [$al,*])))
local macro_rules
 | `(tactic| omega) => `(tactic| first | exact szle rfl | lia)
def BoxAt (G:Gp) (b:Addr) (n:Nat):Prop:=∃x y z:Int,G b=some (.lst [.int x,.int y,.int z])/\0<=x/\0<=y/\y<2147483648/\0<=z/\z<=n
def Keep (b:Addr) (G G':Gp):Prop:=∀c o,c≠b->G c=some o->G' c=some o
theorem Keep.trans {b:Addr} {G G1 G2:Gp} (h:Keep b G G1) (h':Keep b G1 G2):Keep b G G2:=fun c o hc e=>h' c o hc (h c o hc e)
theorem Keep.gup {b:Addr} {G:Gp} {o:GO}:Keep b G (gup G b o):=fun c u hc e=>by rw[jJm hc];exact e
theorem Keep.new {b p:Addr} {G:Gp} {o:GO} (hp:G p=none):Keep b G (L3.gup G p o):=fun c u _ e=>by rw[jJm];exact e;rintro rfl;rw[hp] at e;cases e
abbrev jK5 (ns:List Int):List T:=ns.map T.int
theorem sz:sizeLine=16777216:=PySem.sizeLine_eq
abbrev Web:=List (List (Nat×Nat))
def encE (e:Nat×Nat):T:= .tup [.int e.1,.int e.2]
def encR (r:List (Nat×Nat)):T:= .tup (r.map encE)
def encW (W:Web):T:= .tup (W.map encR)
def en (W:Web) (r i:Nat):Option (Nat×Nat):=(W[r]?).bind fun es=>es[i]?
def Sym (W:Web):Prop:=∀r i s j,en W r i=some (s,j)->en W s j=some (r,i)
def sw:Nat->Nat
 | 0=>1
 | 1=>0
 | n=>n
def keyE (e:Nat×Nat):L2.TKey:=[.inl (.inl (e.1:Int)),.inl (.inl (e.2:Int))]
theorem kUj {a b:Nat×Nat} (h:keyE a=keyE b):a=b:=by
 obtain⟨a1,a2⟩:=a;obtain⟨b1,b2⟩:=b
 simp only[keyE,List.cons.injEq,Sum.inl.injEq,and_true] at h
 obtain⟨h1,h2⟩:=h
 rw[Int.ofNat.inj h1,Int.ofNat.inj h2]
theorem qJa {κ:Type} [DecidableEq κ] (kvs:List (κ×T)) (k:κ) (v:T):(putT kvs k v).length<=kvs.length+1:=by
 unfold putT;split<;>simp
theorem kQz {G:Gp} {p:Addr} {kvs:List (L2.TKey×T)} {ys:List T} {ks:L2.TKey} {v:T} (h:G p=some (.dct kvs)) (hk:jQp ys=some ks) (hz:kvs.length<sizeLine):setR G (.ref p) (.tup ys) v=some (gup G p (.dct (putT kvs ks v))):=by
 simp only[setR,h,hk,hz,if_true]
theorem jYs {W:Web} {r i:Nat} {e:Nat×Nat} (h:en W r i=some e):∃es,W[r]? =some es/\es[i]? =some e:=by
 unfold en at h
 cases e1:W[r]? with
 | none=>rw[e1] at h;cases h
 | some es=>rw[e1] at h;exact⟨es,rfl,h⟩
theorem kY1 {W:Web} {r i:Nat} {es:List (Nat×Nat)} {e:Nat×Nat} (h1:W[r]? =some es) (h2:es[i]? =some e):en W r i=some e:=by unfold en;rw[h1];exact h2
open Classical in
def oth (Hs:Web) (e:Nat×Nat):Nat×Nat:=if h:∃p:Nat×Nat,en Hs p.1 p.2=some (e.1,sw e.2) then h.choose else (0,0)
theorem kZ1 {n i:Nat} {x:T} (h:(rngT 0 n)[i]? =some x):i<n/\x= .int i:=by
 unfold rngT at h
 rw[List.getElem?_map] at h
 have hi:i<n:=by
  rcases Nat.lt_or_ge i n with z | z
  ·exact z
  ·rw[List.getElem?_eq_none (by simpa using z)] at h;cases h
 simp[hi] at h
 exact⟨hi,h.symm⟩
theorem jVj {n:Nat}:(rngT 0 n).length=n:=by simp[rngT]
theorem BoxAt.sub {G G':Gp} {b:Addr} {n:Nat} (h:BoxAt G b n) (s:Sub G G'):BoxAt G' b n:=by
 obtain⟨x,y,z,h1,h2,h3,h4,h5,h6⟩:=h
 exact⟨x,y,z,s _ _ h1,h2,h3,h4,h5,h6⟩
theorem BoxAt.gup {G:Gp} {b p:Addr} {n:Nat} {o:GO} (h:BoxAt G b n) (hp:b≠p):BoxAt (gup G p o) b n:=by
 obtain⟨x,y,z,h1,h2,h3,h4,h5,h6⟩:=h
 exact⟨x,y,z,by rw[jJm hp];exact h1,h2,h3,h4,h5,h6⟩
theorem Keep.sub {b:Addr} {G G':Gp} (h:Sub G G'):Keep b G G':=fun c o _ e=>h c o e
def hv (n t:Nat) (p:Nat×Nat):List (Nat×Nat×Nat):=if p.2=n then [(p.1,t,2)] else [(p.1,t,0),(p.2,t,1)]
theorem qJi {xs:List T}:(numT xs).length=xs.length:=by simp[numT]
theorem jVi {n:Nat}:rngT 0 n=(List.range n).map fun (k:Nat)=>T.int k:=by simp[rngT]
theorem jX8 {lo n:Nat}:rngT lo n=(List.range n).map fun (k:Nat)=>T.int ((lo+k:Nat):Int):=by simp[rngT]
theorem kYq {es:List Nat}:(es.map fun e=>T.int (e:Nat)).all jZd=true:=by
 rw[List.all_map,List.all_eq_true];intros;rfl
theorem jUs {α:Type} {f:α->Bool}:∀ {es:List α},kQq (es.map fun e=>T.bl (f e))=some (es.all f)
 | []=>rfl
 | e::es=>by rw[List.map_cons,kQq,jUs,List.all_cons]
theorem qJ5 {W:Web} {r i:Nat} {e:Nat×Nat} (h:en W r i=some e):r<W.length:=by
 obtain⟨es,h1,h2⟩:=jYs h
 exact (List.getElem?_eq_some_iff.mp h1).1
structure Fine (W:Web):Prop where
 len:W.length<=1000
 row:∀(r:Nat) (es:List (Nat×Nat)),W[r]? =some es->es.length<=1000
 rng:∀r i s j,en W r i=some (s,j)->s<W.length
theorem jYr {W:Web} {r:Nat} {es:List (Nat×Nat)} (h:W[r]? =some es):L2.atI (W.map encR) (r:Int)=some (encR es):=by rw[atN];simp[h]
theorem kY0 {es:List (Nat×Nat)} {i:Nat} {e:Nat×Nat} (h:es[i]? =some e):L2.atI (es.map encE) (i:Int)=some (encE e):=by rw[atN];simp[h]
theorem jQv {n k:Nat} {x:T} (h:(rngT 0 n)[k]? =some x):k<n/\x= .int (k:Nat):=kZ1 h
def jJ7 (F:List Nat):List T:=F.map fun e=>T.int (e:Nat)
theorem qJw {F:List Nat} {r:Nat}:inT (.int r) (jJ7 F)=F.contains r:=by
 unfold inT jJ7
 rw[List.any_map,List.contains_eq_any_beq]
 congr 1
 funext e
 simp only[Function.comp,eqT]
 by_cases h:e=r
 ·subst h;simp
 ·have h2:¬ (e:Int)=r:=by omega
  have h3:¬ r=e:=fun z=>h z.symm
  rw[beq_eq_false_iff_ne.mpr h3,beq_eq_false_iff_ne.mpr h2]
theorem qJx {G:Gp} {p:Addr} {F:List Nat} {r:Nat} (h:G p=some (.lst (jJ7 F))):inR G (.int r) (.ref p)=some (F.contains r):=by
 unfold inR
 rw[jJi h]
 show (if _ then _ else _)=_
 rw[if_pos ⟨rfl,kYq⟩,qJw]
theorem jUx:∀ {n:Nat} {F:List Nat} (hn:F.Nodup) (hl:∀x,x∈F->x<n),F.length<=n
 | 0,F,hn,hl=>by
  cases F with
  | nil=>exact Nat.le_refl _
  | cons a as=>exact absurd (hl a (List.mem_cons_self)) (Nat.not_lt_zero _)
 | n+1,F,hn,hl=>by
  have h1:=jUx (n:=n) (hn.erase n) (fun x hx=>by
   rw[hn.mem_erase_iff] at hx
   have:=hl x hx.2;omega)
  by_cases h:n∈F
  ·rw[List.length_erase_of_mem h] at h1;omega
  ·rw[List.erase_of_not_mem h] at h1;omega
def Closed (W:Web) (S:Nat->Prop):Prop:=∀r i s j,S r->en W r i=some (s,j)->S s
structure Found (W:Web) (r0:Nat) (F:List Nat):Prop where
 nd:F.Nodup
 lt:∀x,x∈F->x<W.length
 got:∀S,S r0->Closed W S->∀x,x∈F->S x
def vis (F:List Nat) (es:List (Nat×Nat)):List Nat:=es.foldl (fun F e=>if F.contains e.1=true then F else F++[e.1]) F
def row (W:Web) (r:Nat):List (Nat×Nat):=(W[r]?).getD []
theorem jX7 {W:Web} {r:Nat} {es:List (Nat×Nat)} (h:W[r]? =some es):row W r=es:=by unfold row;rw[h];rfl
theorem jZs {F:List Nat} {es:List (Nat×Nat)} {j:Nat} {e:Nat×Nat} (h:es[j]? =some e):vis F (es.take (j+1))=if (vis F (es.take j)).contains e.1=true then vis F (es.take j) else vis F (es.take j)++[e.1]:=by
 unfold vis
 rw[List.take_succ,h,List.foldl_append];rfl
def bfsN (W:Web):Nat->Nat->List Nat->List Nat
 | 0,_,F=>F
 | n+1,k,F=>match F[k]? with
  | some r=>bfsN W n (k+1) (vis F (row W r))
  | none=>F
def bfs (W:Web) (r:Nat):List Nat:=bfsN W W.length 0 [r]
theorem kKp {W:Web} {n k:Nat} {F:List Nat} (h:F.length<=k):bfsN W n k F=F:=by
 cases n with
 | zero=>rfl
 | succ n=>rw[bfsN,List.getElem?_eq_none h]
theorem kKo {W:Web} {n k r:Nat} {F:List Nat} (h:F[k]? =some r):bfsN W (n+1) k F=bfsN W n (k+1) (vis F (row W r)):=by rw[bfsN,h]
def cl (M:List (List T)) (x i:Nat):Option T:=(M[x]?).bind fun ts=>ts[i]?
def put (M:List (List T)) (x i:Nat) (v:T):List (List T):=match M[x]? with
 | some ts=>M.set x (ts.set i v)
 | none=>M
theorem qUk {G:Gp} {e f:Nat×Nat}:eqG G (encE e) (encE f)=some (decide (e=f)):=by
 obtain⟨a,b⟩:=e;obtain⟨c,d⟩:=f
 rw[show eqG G (encE (a,b)) (encE (c,d))=some (eqT (encE (a,b)) (encE (c,d))) from rfl]
 congr 1
 simp only[encE,eqT,eqTs,Bool.and_true]
 by_cases h1:a=c
 ·by_cases h2:b=d
  ·simp[h1,h2]
  ·have:¬ (b:Int)=d:=by omega
   simp[h1,h2,this]
 ·have:¬ (a:Int)=c:=by omega
  simp[h1,this]
theorem kYv {G:Gp} {a c:Nat}:eqG G (.int a) (.int c)=some (decide (a=c)):=by
 rw[show eqG G (.int a) (.int c)=some (eqT (.int a) (.int c)) from rfl]
 congr 1
 simp only[eqT]
 by_cases h1:a=c
 ·simp[h1]
 ·have:¬ (a:Int)=c:=by omega
  simp[h1,this]
abbrev RdOk (sp:Sp3) (rd:TS3) (N:List Str):Prop:=∀xs G Q,sp xs G Q->rd {nx:=fun _ G'=>Q .non G',rt:=Q} (jKu N xs) G
noncomputable def jX2:Sp3:=fun xs G Q=>∃(b:Addr) (m:Int) (n:Nat),xs=[.ref b,.int m]/\BoxAt G b n/\n<2^40/\1<=m/\m<2^29/\∀(r:Int) G',0<=r->r<m->BoxAt G' b (n+1)->Keep b G G'->Q (.int r) G'
def qKa:List Str:=["_law_box_here","_law_many","_law_found","_law_once"]
noncomputable def jYb:TS3:=
 (tSeq (tIfS (jJ9 (tOp rGt (tOp rIxF (tVar 0) (tC (.int 0))) (tC (.int 0)))) (tSeq (tAsg (tOp rMod (tOp rIxF (tVar 0) (tC (.int 0))) (tVar 1)) (jJg 2))
 (tSeq (tAsg (tOp qQn (tOp rIxF (tVar 0) (tC (.int 0))) (tVar 1)) (gSub (tVar 0) (tC (.int 0)) jY9))
 (tRet (tVar 2)))) jQr)
 (tSeq (tAsg (tOp jQg (tOp rIxF (tVar 0) (tC (.int 2))) (tC (.int 1))) (gSub (tVar 0) (tC (.int 2)) jY9))
 (tSeq (tAsg (tOp rMod (tOp jV5 (tOp jQg (tOp rIxF (tVar 0) (tC (.int 1))) (tOp jV5 (tC (.int 39373)) (tOp rIxF (tVar 0) (tC (.int 2))))) (tOp jQg (tC (.int 48271)) (tOp rIxF (tVar 0) (tC (.int 2))))) (tC (.int 2147483647))) (jJg 3))
 (tSeq (tAsg (tOp rMod (tOp jQg (tOp jV5 (tVar 3) (tOp jQg (tOp rMod (tVar 3) (tC (.int 40009))) (tC (.int 7)))) (tOp rIxF (tVar 0) (tC (.int 2)))) (tC (.int 2147483629))) (gSub (tVar 0) (tC (.int 1)) jY9))
 (tRet (tOp rMod (tOp qQn (tOp rMod (tOp jV5 (tOp rIxF (tVar 0) (tC (.int 1))) (tOp jQg (tOp rMod (tOp rIxF (tVar 0) (tC (.int 1))) (tC (.int 1009))) (tC (.int 3)))) (tC (.int 998244353))) (tC (.int 7))) (tVar 1)))))))
theorem kK6:RdOk jX2 jYb qKa:=by
 intro xs G Q h_;apply xe3 h_;clear h_;intro b m n h_;apply ae5 h_;clear h_;intro q0_ hn hm1 hm2 k
 obtain⟨x,y,z,hb,hx,hy0,hy1,hz0,hz1⟩:=q0_
 show jYb _ [some (.ref b),some (.int m),none,none] G
 wp_walk using 1,jYb,jVa hb,qKj hb
 have box:∀x' y' z':Int,0<=x'->0<=y'->y'<2147483648->0<=z'->z'<=n+1->BoxAt (gup G b (.lst [.int x',.int y',.int z'])) b (n+1):=fun x' y' z' h1 h2 h3 h4 h5=>⟨x',y',z',jJd,h1,h2,h3,h4,by omega⟩
 split
 ·exact⟨by omega,⟨by omega,by omega⟩,k _ _ (Int.emod_nonneg _ (by omega)) (Int.emod_lt_of_pos _ (by omega)) (box _ _ _ (Int.ediv_nonneg hx (by omega)) hy0 hy1 hz0 (by omega)) .gup⟩
 ·have a0:=Int.emod_nonneg ((y+39373*(z+1))*(48271+(z+1))) (b:=2147483647) (by decide)
  have a1:=Int.emod_lt_of_pos ((y+39373*(z+1))*(48271+(z+1))) (b:=2147483647) (by decide)
  refine⟨.inl (by decide),.inr ⟨by omega,by omega⟩,by decide,by decide,?_⟩
  generalize (y+39373*(z+1))*(48271+(z+1))%2147483647=u at a0 a1 ⊢
  have b0:=Int.emod_nonneg (u*(u%40009+7)+(z+1)) (b:=2147483629) (by decide)
  have b1:=Int.emod_lt_of_pos (u*(u%40009+7)+(z+1)) (b:=2147483629) (by decide)
  refine⟨.inl ⟨by omega,by omega⟩,by decide,by decide,?_⟩
  generalize (u*(u%40009+7)+(z+1))%2147483629=v at b0 b1 ⊢
  refine⟨.inl ⟨by omega,by omega⟩,by decide,⟨by decide,by decide⟩,by omega,?_⟩
  exact k _ _ (Int.emod_nonneg _ (by omega)) (Int.emod_lt_of_pos _ (by omega)) (box _ _ _ hx b0 (by omega) (by omega) (by omega)) .gup
def absZ (v:Int):Int:=if v<0 then -v else v
def boxT (v k:Int):List T:=[.int (if 10^18<=absZ v then absZ v else 0),.int ((v%2147483647+7919*k+11)*48271%2147483629),.int 0]
theorem qU3 {G:Gp} {b:Addr} {v k:Int} (h:G b=some (.lst (boxT v k))):BoxAt G b 0:=by
 refine⟨_,_,_,h,by unfold absZ;split<;>split<;>omega,Int.emod_nonneg _ (by decide),?_,Int.le_refl _,by simp⟩
 have:=Int.emod_lt_of_pos ((v%2147483647+7919*k+11)*48271) (b:=2147483629) (by decide)
 omega
noncomputable def jZ3:Sp3:=fun xs G Q=>∃(c:Addr) (ns:List Int) (k:Nat),xs=[.ref c,.int k]/\G c=some (.lst (jK5 ns))/\ns.length<=63/\∀p G',G p=none->G' p=some (.lst (boxT (ns.getD k 0) k))->Sub G G'->Q (.ref p) G'
def qU6:List Str:=["_law_script","_law_k","_law_cell","_law_digits"]
noncomputable def jZ8:TS3:=
 (tSeq (tAsg (tIf (jJ9 (tOp rLt (tVar 1) (tCB rLen (jJc (tVar 0) tNil)))) (tOp rIxF (tVar 0) (tVar 1)) (tC (.int 0))) (jJg 2))
 (tSeq (tAsg (tIf (jJ9 (tOp rGe (tCB rAbs (jJc (tVar 2) tNil)) (tOp rPow (tC (.int 10)) (tC (.int 18))))) (tCB rAbs (jJc (tVar 2) tNil)) (tC (.int 0))) (jJg 3))
 (tRet (tLst (jJc (tVar 3) (jJc (tOp rMod (tOp jV5 (tOp jQg (tOp jQg (tOp rMod (tVar 2) (tC (.int 2147483647))) (tOp jV5 (tC (.int 7919)) (tVar 1))) (tC (.int 11))) (tC (.int 48271))) (tC (.int 2147483629))) (jJc (tC (.int 0)) tNil)))))))
theorem kVa:RdOk jZ3 jZ8 qU6:=by
 intro xs G Q h_;apply xe3 h_;clear h_;intro c ns k h_;apply ae3 h_;clear h_;intro hc hl kk
 show jZ8 _ [some (.ref c),some (.int k),none,none] G
 have hs:=sz
 have fin:∀v:Int,v=ns.getD k 0->∀x,x=(if 10^18<=absZ v then absZ v else 0)->0<(2147483647:Int)/\L2.CMul 7919 k/\L2.CMul (v%2147483647+7919*k+11) 48271/\0<(2147483629:Int)/\3<=sizeLine/\∀p,G p=none->Q (.ref p) (gup G p (.lst [.int x,.int ((v%2147483647+7919*k+11)*48271%2147483629),.int 0])):=by
  rintro v rfl x rfl
  exact⟨by decide,.inl (by decide),.inr (by decide),by decide,by omega,fun p hp=>kk p _ hp jJd (.new hp)⟩
 have both:∀v:Int,v=ns.getD k 0->(if (10:Int)^Int.toNat 18<=(if v<0 then -v else v) then (0<(2147483647:Int)/\L2.CMul 7919 k/\L2.CMul (v%2147483647+7919*k+11) 48271/\0<(2147483629:Int)/\3<=sizeLine/\∀p,G p=none->Q (.ref p) (gup G p (.lst [.int (if v<0 then -v else v),.int ((v%2147483647+7919*k+11)*48271%2147483629),.int 0]))) else (0<(2147483647:Int)/\L2.CMul 7919 k/\L2.CMul (v%2147483647+7919*k+11) 48271/\0<(2147483629:Int)/\3<=sizeLine/\∀p,G p=none->Q (.ref p) (gup G p (.lst [.int 0,.int ((v%2147483647+7919*k+11)*48271%2147483629),.int 0])))):=by
  intro v hv
  by_cases h:10^18<=absZ v
  ·rw[if_pos (show (10:Int)^Int.toNat 18<=(if v<0 then -v else v) from h)]
   exact fin v hv _ (by rw[if_pos h];rfl)
  ·rw[if_neg (show ¬ (10:Int)^Int.toNat 18<=(if v<0 then -v else v) from h)]
   exact fin v hv _ (by rw[if_neg h])
 wp_walk using 1,jZ8,jJi hc,List.length_map,jVa hc
 by_cases hk:k<ns.length
 ·rw[if_pos (by omega)]
  have hv:ns[k]? =some ns[k]:=List.getElem?_eq_getElem hk
  have hg:ns[k]=ns.getD k 0:=by rw[List.getD,hv];rfl
  have b:=both ns[k] hg
  refine⟨.int ns[k],by rw[atN,List.getElem?_map,hv];rfl,_,rfl,⟨by decide,by decide,by decide⟩,?_⟩
  generalize ns[k]=v at b
  by_cases h:(10:Int)^Int.toNat 18<=(if v<0 then -v else v)
  ·rw[if_pos h] at b ⊢
   exact⟨v,rfl,v,rfl,b⟩
  ·rw[if_neg h] at b ⊢
   exact⟨v,rfl,b⟩
 ·rw[if_neg (by omega)]
  exact⟨⟨by decide,by decide,by decide⟩,both 0 (by rw[List.getD,List.getElem?_eq_none (by omega)];rfl)⟩
noncomputable def jU5:Sp3:=fun xs G Q=>∃(ns:List Int) (m:Int),xs=[.scr (jK5 ns),.int m]/\ns.length<=63/\1<=m/\m<=63/\∀D rs G',G D=none->G' D=some (.lst (rs.map T.ref))->rs.length<=63->(D::rs).Nodup->(∀r,r∈rs->BoxAt G' r 0)->Sub G G'->Q (.ref D) G'
def kVy:List Str:=["_law_script","_law_many","_law_cells","_law_k","_law_cell"]
noncomputable def jU8:TS3:=
 (tSeq (tAsg (tCB kXm (jJc (tSl rSlF (tVar 0) jUk (jY6 (tVar 1))) tNil)) (jJg 2))
 (tSeq (tFor (jZb (jJc (tSl rSlF (tVar 0) (jY6 (tVar 1)) (jY6 (tC (.int 63)))) tNil)) (gTup 2 (jKg (jJg 3) (jKg (jJg 4) gNil))) (tAsg (tOp jQg (tOp rIxF (tVar 2) (tOp rMod (tVar 3) (tVar 1))) (tOp jV5 (tVar 4) (tOp jQg (tVar 3) (tC (.int 2))))) (gSub (tVar 2) (tOp rMod (tVar 3) (tVar 1)) jY9)))
 (tRet (jKm [false,false,false,true,false] (jKx (jJc (tCB rMax (jJc (tC (.int 1)) (jJc (tCB rLen (jJc (tVar 2) tNil)) tNil))) tNil)) (jJg 3) jQj (jKd jZ3 (jJc (tVar 2) (jJc (tVar 3) tNil)))))))
theorem jZ7:RdOk jU5 jU8 kVy:=by
 intro xs G Q h_;apply xe2 h_;clear h_;intro ns m h_;apply ae4 h_;clear h_;intro hl hm1 hm2 kk
 show jU8 _ [some (.scr (jK5 ns)),some (.int m),none,none,none] G
 have hs:=sz
 wp_walk using 1,jU8,tSl,rSlF,slR,jUk,jY6,kXm,kQc,jJ6,jZb
 intro p hp p1 hp1
 obtain⟨hpp,hp10⟩:=jKb hp1
 intro q hq
 obtain⟨hq1,hq2⟩:=jKb hq
 obtain⟨hqp,hq0⟩:=jKb hq2
 obtain⟨cs,hcs,lcs⟩:∃cs:List Int,cutT (jK5 ns) none (some m)=jK5 cs/\cs.length=min m.toNat ns.length:=by
  refine⟨ns.take (min m.toNat ns.length),?_,by simp⟩
  simp only[cutT,HT.sIx,List.length_map,List.drop_zero,Nat.sub_zero]
  rw[if_neg (by omega)]
  simp[List.map_take]
 obtain⟨rs,hrs,lrs⟩:∃rs:List Int,cutT (jK5 ns) (some m) (some 63)=jK5 rs/\(rs.length<=63/\(0<rs.length->m.toNat<=ns.length)):=by
  refine⟨(ns.drop (min m.toNat ns.length)).take (min 63 ns.length-min m.toNat ns.length),?_,?_,?_⟩
  ·simp only[cutT,HT.sIx,List.length_map]
   simp only[show ¬ m<0 by omega,show ¬ (63:Int)<0 by decide,if_false]
   simp[List.map_take,List.map_drop]
  ·simp;omega
  ·simp;omega
 rw[hcs,hrs]
 refine⟨jK5 rs,by simp only[jKw,jJd,asL],?_⟩
 refine⟨fun i τ G'=>∃(v3 v4:Option T) (ms:List Int),τ=[some (.scr (jK5 ns)),some (.int m),some (.ref p1),v3,v4]/\G' p1=some (.lst (jK5 ms))/\ms.length=cs.length/\G' q=some (.lst (jK5 rs))/\Sub G G',?_,?_,?_,?_⟩
 ·refine⟨none,none,cs,rfl,by rw[jJm hq1.symm,jJd],rfl,jJd,(((Sub.new hp).over hp10).over hq0)⟩
 ·intro i τ G' hi h_;apply xe3 h_;clear h_;intro v3 v4 ms h_;apply ae4 h_;clear h_;intro h1 h2 h3 h4
  simp only[jKw,h3,asL]
 ·intro i x τ G' hx h_;apply xe3 h_;clear h_;intro v3 v4 ms h_;apply ae4 h_;clear h_;intro h1 h2 h3 h4
  have hi:i<rs.length:=by have:=(List.getElem?_eq_some_iff.mp hx).1;simpa[jJ1] using this
  have hri:(jK5 rs)[i]? =some (.int rs[i]):=by simp[hi]
  rw[jVq hri] at hx
  cases hx
  have hml:=lrs.2 (by omega)
  have hk0:(0:Int)<=(i:Int)%m:=Int.emod_nonneg _ (by omega)
  have hk1:(i:Int)%m<m:=Int.emod_lt_of_pos _ (by omega)
  have hk:((i:Int)%m).toNat<ms.length:=by omega
  have hat:L2.atI (jK5 ms) ((i:Int)%m)=some (.int ms[((i:Int)%m).toNat]):=by rw[atZ hk0];simp[hk]
  have hix:L2.ixN (jK5 ms).length ((i:Int)%m)=some ((i:Int)%m).toNat:=ixZ hk0 (by simp;omega)
  wp_walk using 1,jVa h1,hat,kZw h1 hix
  refine⟨by omega,.inr ⟨by omega,by omega⟩,by omega,?_⟩
  exact⟨ms.set ((i:Int)%m).toNat (ms[((i:Int)%m).toNat]+rs[i]*((i:Int)+2)),by simp[jK5,List.map_set],by simpa using h2,by rw[jJm hq1];exact h3,h4.over hp10⟩
 ·intro τ G' h_;apply xe3 h_;clear h_;intro v3 v4 ms h_;apply ae4 h_;clear h_;intro h1 h2 h3 h4
  have hm:ms.length<=63:=by omega
  wp_walk using 1,jKx,rMax,jJi h1
  obtain⟨N,hN,hN2⟩:∃N:Nat,(if ((jK5 ms).length:Int)>1 then ((jK5 ms).length:Int) else 1)=(N:Int)/\N<=63:=by
   refine⟨(if ((jK5 ms).length:Int)>1 then ((jK5 ms).length:Int) else 1).toNat,?_,?_⟩<;>rw[List.length_map]<;>split<;>omega
  rw[hN]
  refine⟨by omega,by omega,?_⟩
  rw[show ((N:Nat):Int).toNat=N by omega,jVi]
  refine jXa (fun k:Nat=>boxT (ms.getD k 0) k) (by simp;omega) (fun _ _=>trivial) ?_ ?_
  ·intro i k hk G2 K K0 s hK
   wp_walk using 1,tSeq
   exact⟨p1,ms,k,rfl,s _ _ h1,hm,fun p G4 hp h4 s4=>hK p G4 hp h4 s4⟩
  ·intro E rs G2 hE hE2 s2 hrl hnd hrs
   rw[List.length_range] at hrl
   refine kk E rs G2 (h4.none hE) hE2 (by omega) hnd (fun r hr=> ?_) (h4.trans s2)
   obtain⟨j,hj⟩:=List.getElem?_of_mem hr
   have hjl:j<rs.length:=(List.getElem?_eq_some_iff.mp hj).1
   exact qU3 (hrs j r j hj (by rw[List.getElem?_range (by omega)])).2
theorem kK0 {kvs:List (L2.Key×T)} {k:L2.Key}:(valT kvs k).isSome=true↔k∈kvs.map Prod.fst:=by
 unfold valT
 rw[Option.isSome_map,List.find?_isSome,List.mem_map]
 exact⟨fun ⟨a,h1,h2⟩=>⟨a,h1,by simpa using h2⟩,fun ⟨a,h1,h2⟩=>⟨a,h1,by simpa using h2⟩⟩
def keyN (x:Nat):L2.Key:= .inl (x:Nat)
theorem kUi {F:List Nat} {x:Nat}:keyN x∈F.map keyN↔x∈F:=by
 rw[List.mem_map]
 refine⟨fun ⟨a,ha,e⟩=> ?_,fun h=>⟨x,h,rfl⟩⟩
 have e1:(Sum.inl (a:Int):L2.Key)=Sum.inl (x:Int):=e
 have:(a:Int)=x:=by injection e1
 have:a=x:=by omega
 exact this▸ha
theorem qUf {G:Gp} {d:Addr} {kvs:List (L2.Key×T)} {F:List Nat} {x:Nat} (h:G d=some (.dck kvs)) (hk:kvs.map Prod.fst=F.map keyN):inR G (.int (x:Nat)) (.ref d)=some (decide (x∈F)):=by
 have e1:seqT G (.ref d)=none:=by simp only[seqT,h];rfl
 have e2:dAt G (.ref d) (.int (x:Nat))=some (valT kvs (keyN x)):=by simp only[dAt,h,jVt];rfl
 unfold inR
 simp only[e1,e2]
 congr 1
 rw[Bool.eq_iff_iff,kK0,hk,kUi];simp
theorem kZ9 {kvs:List (L2.Key×T)} {k:L2.Key} {v:T} (h:k∉kvs.map Prod.fst):putT kvs k v=kvs++[(k,v)]:=by
 unfold putT
 rw[if_neg]
 rw[List.any_eq_true]
 rintro⟨a,ha,e⟩
 exact h (List.mem_map.mpr ⟨a,ha,by simpa using e⟩)
theorem kZy {G:Gp} {d:Addr} {kvs:List (L2.Key×T)} {x:Nat} {v:T} (h:G d=some (.dck kvs)) (hz:kvs.length<sizeLine):setR G (.ref d) (.int (x:Nat)) v=some (gup G d (.dck (putT kvs (keyN x) v))):=by
 simp only[setR,h,jVt]
 rw[if_pos hz];rfl
theorem kJf {xs:List T} {j:Nat} {y:T} (h:(numT xs)[j]? =some y):∃x,xs[j]? =some x/\y= .tup [.int j,x]:=by
 have hj:j<xs.length:=by have:=(List.getElem?_eq_some_iff.mp h).1;rwa [jJ1] at this
 refine⟨xs[j],List.getElem?_eq_getElem hj,?_⟩
 rw[jVq (List.getElem?_eq_getElem hj)] at h
 cases h;rfl
theorem kZt {G G':Gp} (h:Sub G G') {p:Addr} (hp:G' p=none):G p=none:=by
 cases e:G p with
 | none=>rfl
 | some o=>rw[h _ _ e] at hp;cases hp
theorem vis_sub {F:List Nat} {es:List (Nat×Nat)}:(∃E,vis F es=F++E)/\(∀e,e∈es->e.1∈vis F es)/\(∀x,x∈vis F es->x∈F\/∃e,e∈es/\e.1=x)/\(F.Nodup->(vis F es).Nodup):=by
 induction es generalizing F with
 | nil=>exact⟨⟨[],by simp[vis]⟩,by simp,fun x h=> .inl h,fun h=>h⟩
 | cons e es ih=>
  have hv:vis F (e::es)=vis (if F.contains e.1=true then F else F++[e.1]) es:=rfl
  rw[hv]
  by_cases h:F.contains e.1=true
  ·rw[if_pos h]
   obtain⟨⟨E,i1⟩,i2,i3,i4⟩:=ih (F:=F)
   refine⟨⟨E,i1⟩,fun d hd=> ?_,fun x hx=> ?_,i4⟩
   ·rcases (List.mem_cons.mp hd) with rfl | hde
    ·rw[i1];exact List.mem_append_left _ (by simpa using h)
    ·exact i2 d hde
   ·rcases i3 x hx with h | ⟨d,hd,e⟩
    ·exact .inl h
    ·exact .inr ⟨d,List.mem_cons_of_mem _ hd,e⟩
  ·rw[if_neg h]
   obtain⟨⟨E,i1⟩,i2,i3,i4⟩:=ih (F:=F++[e.1])
   refine⟨⟨e.1::E,by rw[i1];simp⟩,fun d hd=> ?_,fun x hx=> ?_,fun hn=>i4 ?_⟩
   ·rcases (List.mem_cons.mp hd) with rfl | hde
    ·rw[i1];exact List.mem_append_left _ (by simp)
    ·exact i2 d hde
   ·rcases i3 x hx with h | ⟨d,hd,e'⟩
    ·rcases (List.mem_append.mp h) with h | hs
     ·exact .inl h
     ·exact .inr ⟨e,List.mem_cons_self ..,(List.mem_singleton.mp hs).symm⟩
    ·exact .inr ⟨d,List.mem_cons_of_mem _ hd,e'⟩
   ·rw[List.nodup_append]
    exact⟨hn,by simp,fun a ha b hb=>by rw[List.mem_singleton] at hb;subst hb;rintro rfl;exact h (by simpa using ha)⟩
structure Bfs (W:Web) (k:Nat) (F:List Nat):Prop where
 nd:F.Nodup
 lt:∀x,x∈F->x<W.length
 near:∀(i x:Nat) (e:Nat×Nat),i<k->F[i]? =some x->e∈row W x->e.1∈F
theorem qQh {W:Web} {x:Nat} {e:Nat×Nat} (h:e∈row W x):∃i,en W x i=some e:=by
 unfold row at h
 cases hW:W[x]? with
 | none=>rw[hW] at h;simp at h
 | some es=>
  rw[hW] at h
  obtain⟨i,hi⟩:=List.getElem?_of_mem (show e∈es from h)
  exact⟨i,kY1 hW hi⟩
theorem Bfs.step {W:Web} (f:Fine W) {k r:Nat} {F:List Nat} (h:Bfs W k F) (hr:F[k]? =some r):Bfs W (k+1) (vis F (row W r)):=by
 obtain⟨⟨E,e1⟩,e2,e3,e4⟩:=vis_sub (F:=F) (es:=row W r)
 refine⟨e4 h.nd,fun x hx=> ?_,fun i x e hi hx he=> ?_⟩
 ·rcases e3 x hx with hx | ⟨e,he,rfl⟩
  ·exact h.lt x hx
  ·obtain⟨i,hi⟩:=qQh he
   exact f.rng _ _ e.1 e.2 hi
 ·have hkl:k<F.length:=(List.getElem?_eq_some_iff.mp hr).1
  have hx':F[i]? =some x:=by rw[e1,List.getElem?_append_left (by omega)] at hx;exact hx
  rcases Nat.lt_or_eq_of_le (Nat.le_of_lt_succ hi) with h1 | rfl
  ·rw[e1];exact List.mem_append_left _ (h.near i x e h1 hx' he)
  ·rw[hr] at hx';cases hx';exact e2 e he
theorem vis_lt {W:Web} (f:Fine W) {F:List Nat} {x:Nat} {es:List (Nat×Nat)} (hx:W[x]? =some es) (hF:∀y,y∈F->y<W.length) (j:Nat):∀y,y∈vis F (es.take j)->y<W.length:=by
 intro y hy
 rcases (vis_sub (F:=F) (es:=es.take j)).2.2.1 y hy with h | ⟨e,he,rfl⟩
 ·exact hF y h
 ·obtain⟨i,hi⟩:=List.getElem?_of_mem (List.mem_of_mem_take he)
  exact f.rng x i e.1 e.2 (kY1 hx hi)
noncomputable def jK0:Sp3:=fun xs G Q=>∃(W:Web) (r0:Nat),xs=[encW W,.int r0]/\Fine W/\r0<W.length/\∀d G' kvs,G d=none->G' d=some (.dck kvs)->kvs.map Prod.fst=(bfs W r0).map keyN->Sub G G'->Q (.ref d) G'
def jY1:List Str:=["web","room","comings","level","further","here","door","end"]
noncomputable def jK2:TS3:=
 (tSeq (tAsg (kV5 (tVar 1) (tC .non)) (jJg 2))
 (tSeq (tAsg (tLst (jJc (tVar 1) tNil)) (jJg 3))
 (tSeq (jZh (tTru rTru (tVar 3)) (tSeq (tAsg (tLst tNil) (jJg 4))
 (tSeq (tFor (iSeq (tVar 3)) (jJg 5) (tFor (iEnT (jJc (tOp rIxF (tVar 0) (tVar 5)) tNil)) (gTup 2 (jKg (jJg 6) (jKg (jJg 7) gNil))) (tIfS (jJ9 (tOp jK9 (tOp rIxF (tVar 7) (tC (.int 0))) (tVar 2))) (tSeq (tAsg (tTup (jJc (tVar 5) (jJc (tVar 6) tNil))) (gSub (tVar 2) (tOp rIxF (tVar 7) (tC (.int 0))) jY9))
 (jU4 (tBM "list" jK4 (tVar 4) (jJc (tOp rIxF (tVar 7) (tC (.int 0))) tNil)))) jQr)))
 (tAsg (tVar 4) (jJg 3)))))
 (tRet (tVar 2)))))
theorem jVm:RdOk jK0 jK2 jY1:=by
 intro xs G Q h_;apply xe2 h_;clear h_;intro W r0 h_;apply ae3 h_;clear h_;intro fine hr0 kk
 show jK2 _ [some (.tup (W.map encR)),some (.int r0),none,none,none,none,none,none] G
 have hs:=sz
 have hl:=fine.len
 wp_walk using 1,jK2,jZh,jJ6,kV5,iSeq,iEnT
 intro d hd
 refine⟨keyN r0,rfl,by omega,fun l hl0=> ?_⟩
 have hdl:d≠l:=jJh (jJd (G:=G) (a:=d) (o:= .dck [(keyN r0,T.non)])) hl0
 refine⟨fun m τ G'=>∃(a:Nat) (l:Addr) (v4 v5 v6 v7:Option T) (F:List Nat) (kvs:List (L2.Key×T)),τ=[some (.tup (W.map encR)),some (.int r0),some (.ref d),some (.ref l),v4,v5,v6,v7]/\d≠l/\G l=none/\G' d=some (.dck kvs)/\kvs.map Prod.fst=F.map keyN/\G' l=some (.lst (jJ7 (F.drop a)))/\a<=F.length/\Bfs W a F/\bfs W r0=bfsN W (W.length-a) a F/\Sub G G'/\m=W.length-a,?_,?_⟩
 ·refine⟨_,0,l,none,none,none,none,[r0],[(keyN r0,T.non)],rfl,hdl,?_,?_,rfl,jJd,Nat.zero_le _,⟨by simp,by simpa using hr0,fun i x e hi=>absurd hi (Nat.not_lt_zero _)⟩,rfl,(Sub.new hd).trans (.new hl0),rfl⟩
  ·rw[jJm hdl.symm] at hl0;exact hl0
  ·rw[jJm hdl];exact jJd
 intro m τ G1 h_;apply xe8 h_;clear h_;intro a l v4 v5 v6 v7 F kvs h_;apply ae10 h_;clear h_;intro hdl hl0 h1 hk h2 haF hB hb hs1 e9_
 subst e9_
 have hFl:=jUx hB.nd hB.lt
 wp_walk using 1,h2
 split
 ·rename_i hne
  have haF':a<F.length:=by
   rcases Nat.lt_or_ge a F.length with z | z
   ·exact z
   ·rw[List.drop_of_length_le z] at hne;simp[jJ7] at hne
  refine⟨fun τ' G'=>∃(l':Addr) (v4 v5 v6 v7:Option T) (F':List Nat) (kvs':List (L2.Key×T)),τ'=[some (.tup (W.map encR)),some (.int r0),some (.ref d),some (.ref l'),v4,v5,v6,v7]/\d≠l'/\G l'=none/\G' d=some (.dck kvs')/\kvs'.map Prod.fst=F'.map keyN/\G' l'=some (.lst (jJ7 (F'.drop F.length)))/\F.length<=F'.length/\Bfs W F.length F'/\bfs W r0=bfsN W (W.length-F.length) F.length F'/\Sub G G',?_,by omega,fun p hp=> ?_⟩
  ·intro τ' G' h_;apply xe7 h_;clear h_;intro l' v4 v5 v6 v7 F' kvs' h_;apply ae9 h_;clear h_;intro i1 i2 i3 i4 i5 i6 i7 i8 i9
   exact⟨W.length-F.length,by omega,F.length,l',v4,v5,v6,v7,rfl,i1,i2,F',kvs',i3,i4,i5,i6,i7,i8,i9,rfl⟩
  ·have hpd:d≠p:=jJh h1 hp
   have hpl:l≠p:=jJh h2 hp
   have hp0:=kZt hs1 hp
   refine⟨jJ7 (F.drop a),jJi (by rw[jJm hpl];exact h2),?_⟩
   refine⟨fun i τ G'=>∃(v5 v6 v7:Option T) (F':List Nat) (kvs':List (L2.Key×T)),τ=[some (.tup (W.map encR)),some (.int r0),some (.ref d),some (.ref l),some (.ref p),v5,v6,v7]/\G' d=some (.dck kvs')/\kvs'.map Prod.fst=F'.map keyN/\G' l=some (.lst (jJ7 (F.drop a)))/\G' p=some (.lst (jJ7 (F'.drop F.length)))/\(∃E,F'=F++E)/\Bfs W (a+i) F'/\bfs W r0=bfsN W (W.length-(a+i)) (a+i) F'/\Sub G G',?_,?_,?_,?_⟩
   ·exact⟨v5,v6,v7,F,kvs,rfl,by rw[jJm hpd];exact h1,hk,by rw[jJm hpl];exact h2,by rw[List.drop_length];exact jJd,⟨[],by simp⟩,hB,hb,hs1.trans (.new hp)⟩
   ·intro i τ G' hi h_;apply xe5 h_;clear h_;intro v5 v6 v7 F' kvs' h_;apply ae8 h_;clear h_;intro j1 jk j2 j3 jE jB jb js
    exact jJi j2
   ·intro i y τ G2 hy h_;apply xe5 h_;clear h_;intro v5 v6 v7 F' kvs' h_;apply ae8 h_;clear h_;intro j1 jk j2 j3 q4_ jB jb js
    obtain⟨E,jE⟩:=q4_
    obtain⟨x,hx,rfl⟩:=jKr hy
    rw[List.getElem?_drop] at hx
    have hai:a+i<F.length:=(List.getElem?_eq_some_iff.mp hx).1
    have hx':F'[a+i]? =some x:=by rw[jE,List.getElem?_append_left hai];exact hx
    have hxW:=jB.lt x (List.mem_of_getElem? hx')
    have hW:W[x]? =some W[x]:=List.getElem?_eq_getElem hxW
    generalize W[x]=es at hW
    wp_walk using 1,iEnT,jYr hW,encR,jJ6
    refine⟨fun j τ G'=>∃(v6 v7:Option T) (F2:List Nat) (kvs2:List (L2.Key×T)),τ=[some (.tup (W.map encR)),some (.int r0),some (.ref d),some (.ref l),some (.ref p),some (.int x),v6,v7]/\G' d=some (.dck kvs2)/\kvs2.map Prod.fst=F2.map keyN/\G' l=some (.lst (jJ7 (F.drop a)))/\G' p=some (.lst (jJ7 (F2.drop F.length)))/\F2=vis F' (es.take j)/\Sub G G',?_,?_,?_,?_⟩
    ·exact⟨v6,v7,F',kvs',rfl,j1,jk,j2,j3,rfl,js⟩
    ·intros;trivial
    ·intro j y τ G3 hy h_;apply xe4 h_;clear h_;intro v6 v7 F2 kvs2 h_;apply ae6 h_;clear h_;intro q1 qk q2 q3 q4 q5
     obtain⟨z,hz,rfl⟩:=kJf hy
     obtain⟨e,he,rfl⟩:=jKr hz
     have hF2n:F2.Nodup:=by rw[q4];exact vis_sub.2.2.2 jB.nd
     have hF2l:∀y,y∈F2->y<W.length:=by rw[q4];exact vis_lt fine hW jB.lt j
     have hF2:=jUx hF2n hF2l
     have hkl:kvs2.length=F2.length:=by have:=congrArg List.length qk;simpa using this
     have hFF:F.length<=F2.length:=by
      obtain⟨⟨E',e1⟩,_⟩:=vis_sub (F:=F') (es:=es.take j)
      rw[q4,e1,jE];simp only[List.length_append];omega
     wp_walk using 1,encE,jK9,qUf q1 qk
     by_cases hm:e.1∈F2
     ·rw[if_neg (by simp[hm])]
      exact⟨F2,kvs2,q1,qk,q2,q3,by rw[jZs he,<-q4,if_pos (by simpa using hm)],q5⟩
     ·rw[if_pos (by simp[hm])]
      wp_walk using 1,kZy q1 (show kvs2.length<sizeLine by omega)
      have hgp:gup G3 d (.dck (putT kvs2 (keyN e.1) (.tup [.int x,.int j]))) p=some (.lst (jJ7 (F2.drop F.length))):=by rw[jJm hpd.symm];exact q3
      refine⟨by omega,by rw[jKp hgp];trivial,_,hgp,by simp[jJ7];omega,F2++[e.1],kvs2++[(keyN e.1,.tup [.int x,.int j])],?_,?_,?_,?_,?_,?_⟩
      ·rw[jJm hpd,jJd,kZ9 (by rw[qk,kUi];exact hm)]
      ·rw[List.map_append,List.map_append,qk];rfl
      ·rw[jJm hpl,jJm hdl.symm];exact q2
      ·rw[List.drop_append_of_le_length hFF];simp[jJ7]
      ·rw[jZs he,<-q4,if_neg (by simpa using hm)]
      ·exact (q5.over hd).over hp0
    ·intro τ G3 h_;apply xe4 h_;clear h_;intro v6 v7 F2 kvs2 h_;apply ae6 h_;clear h_;intro q1 qk q2 q3 q4 q5
     rw[jJ1,List.length_map,List.take_length] at q4
     obtain⟨⟨E',e1⟩,_⟩:=vis_sub (F:=F') (es:=es)
     refine⟨_,_,_,rfl,F2,kvs2,q1,qk,q2,q3,⟨E++E',by rw[q4,e1,jE,List.append_assoc]⟩,?_,?_,q5⟩
     ·have:=jB.step fine hx'
      rw[jX7 hW,<-q4] at this
      exact this
     ·rw[jb,show W.length-(a+i)=W.length-(a+(i+1))+1 by omega,kKo hx',jX7 hW,<-q4];rfl
   ·intro τ G2 h_;apply xe5 h_;clear h_;intro v5 v6 v7 F' kvs' h_;apply ae8 h_;clear h_;intro j1 jk j2 j3 q4_ jB jb js
    obtain⟨E,jE⟩:=q4_
    have hlen:(jJ7 (F.drop a)).length=F.length-a:=by simp[jJ7]
    rw[hlen,show a+(F.length-a)=F.length by omega] at jB jb
    wp_walk using 1,tSeq
    exact⟨hpd,hp0,F',kvs',j1,jk,j3,by rw[jE,List.length_append];omega,jB,jb,js⟩
 ·rename_i hne
  have he:F.length<=a:=by
   have:jJ7 (F.drop a)=[]:=by simpa using hne
   have:=congrArg List.length this
   simp[jJ7] at this;omega
  rw[kKp he] at hb
  exact kk d G1 kvs hd h1 (by rw[hk,hb]) hs1
def PlN:Nat->T->Prop
 | 0,t=>∃i,t= .int i
 | n+1,t=>(∃i,t= .int i)\/∃ts,t= .tup ts/\ts.length<=6000/\∀u,u∈ts->PlN n u
noncomputable def AL:Nat->Gp->T->T->Prop
 | 0,_,x,y=>x=y/\PlN 0 x
 | n+1,G,x,y=>(x=y/\PlN (n+1) x)\/∃(p q:Addr) (ts:List T),x= .ref p/\y= .ref q/\G p=some (.lst ts)/\G q=some (.lst ts)/\ts.length<=6000/\∀u,u∈ts->PlN n u
def jX5 (n:Nat):Sp3:=fun xs G Q=>∃x y,xs=[x,y]/\AL n G x y/\∀G',Sub G G'->Q (.bl true) G'
section
variable (jUw:Sp3)
def jUu:List Str:=["_law_found","_law_due","_law_one","_law_other"]
noncomputable def jKq:TS3:=
 (tSeq (tIfS (jJ9 (tCB rIsi (jJc (tVar 1) (jJc (tTup (jJc (tC (.ty "list")) (jJc (tC (.ty "tuple")) tNil))) tNil)))) (tSeq (tIfS (tOr (tNot (jJ9 (tCB rIsi (jJc (tVar 0) (jJc (tTup (jJc (tC (.ty "list")) (jJc (tC (.ty "tuple")) tNil))) tNil))))) (jJ9 (tOp rNeA (tCB rIsi (jJc (tVar 0) (jJc (tC (.ty "list")) tNil))) (tCB rIsi (jJc (tVar 1) (jJc (tC (.ty "list")) tNil)))))) (tRet (tC (.bl false))) jQr)
 (tRet (jVz (tOp rEqA (tCB rLen (jJc (tVar 0) tNil)) (tCB rLen (jJc (tVar 1) tNil))) (tCB rAll (jJc (jKm [false,false,true,true] (qJy (jJc (tVar 0) (jJc (tVar 1) tNil))) (gTup 2 (jKg (jJg 2) (jKg (jJg 3) gNil))) jQj (jKd jUw (jJc (tVar 2) (jJc (tVar 3) tNil)))) tNil))))) jQr)
 (tSeq (tIfS (tOr (jJ9 (tOp rIsN (tVar 1) (tC .non))) (jJ9 (tCB rIsi (jJc (tVar 1) (jJc (tC (.ty "str")) tNil))))) (tRet (jVz (tOp rEqA (tVar 0) (tVar 1)) (tOp rEqA (tCB rIsi (jJc (tVar 0) (jJc (tC (.ty "str")) tNil))) (tCB rIsi (jJc (tVar 1) (jJc (tC (.ty "str")) tNil)))))) jQr)
 (tRet (jVz (tCB rIsi (jJc (tVar 0) (jJc (tC (.ty "int")) tNil))) (jVz (tOp rEqA (tCB rIsi (jJc (tVar 0) (jJc (tC (.ty "bool")) tNil))) (tCB rIsi (jJc (tVar 1) (jJc (tC (.ty "bool")) tNil)))) (tOp rEqA (tVar 0) (tVar 1)))))))
end
theorem qKx {G:Gp} {i:Int}:isiT G (.int i) (.ty "bool")=some false:=rfl
theorem isi_il {G:Gp} {i:Int}:isiT G (.int i) (.tup [.ty "list",.ty "tuple"])=some false:=rfl
theorem qKw {G:Gp} {i:Int}:isiT G (.int i) (.ty "int")=some true:=rfl
theorem isi_is {G:Gp} {i:Int}:isiT G (.int i) (.ty "str")=some false:=rfl
theorem kYh {G:Gp} {ts:List T}:isiT G (.tup ts) (.ty "tuple")=some true:=rfl
theorem qUe {G:Gp} {ts:List T}:isiT G (.tup ts) (.tup [.ty "list",.ty "tuple"])=some true:=rfl
theorem isi_tl {G:Gp} {ts:List T}:isiT G (.tup ts) (.ty "list")=some false:=rfl
theorem kYx {G:Gp} {a:Bool}:eqG G (.bl a) (.bl a)=some true:=by
 rw[show eqG G (.bl a) (.bl a)=some (eqT (.bl a) (.bl a)) from rfl]
 simp[eqT]
theorem kQl {G:Gp} {a:Int}:eqG G (.int a) (.int a)=some true:=by
 rw[show eqG G (.int a) (.int a)=some (eqT (.int a) (.int a)) from rfl]
 simp[eqT]
theorem kYi {G:Gp} {p:Addr} {ts:List T} (h:G p=some (.lst ts)):isiT G (.ref p) (.tup [.ty "list",.ty "tuple"])=some true:=by simp only[isiT,jZu,h];rfl
theorem qKv {G:Gp} {p:Addr} {ts:List T} (h:G p=some (.lst ts)):isiT G (.ref p) (.ty "list")=some true:=by simp only[isiT,jZu,h];rfl
theorem jVl (sp:Sp3):∀xs G Q,jX5 0 xs G Q->jKq sp {nx:=fun _ G'=>Q .non G',rt:=Q} (jKu jUu xs) G:=by
 intro xs G Q h_;apply xe2 h_;clear h_;intro t t' h_;apply ae2 h_;clear h_;intro ht kk
 obtain⟨rfl,ht⟩:=ht
 show jKq _ _ [some t,some t,none,none] G
 have hs:=sz
 obtain⟨i,rfl⟩:=ht
 wp_walk using 1,jKq,rIsi,rEqA,rIsN,kQl,kYx,qKx,isi_il,qKw,isi_is
 exact⟨by omega,kk G (.refl _)⟩
theorem kQs {ts:List T}:zipT ts ts=ts.map fun t=>T.tup [t,t]:=by
 unfold zipT
 induction ts with
 | nil=>rfl
 | cons a as ih=>rw[List.zip_cons_cons,List.map_cons,ih];rfl
theorem al_in {n:Nat} {G:Gp} {u:T} (h:PlN n u):AL n G u u:=by
 cases n with
 | zero=>exact⟨rfl,h⟩
 | succ n=>exact .inl ⟨rfl,h⟩
theorem jQn (n:Nat):∀xs G Q,jX5 (n+1) xs G Q->jKq (jX5 n) {nx:=fun _ G'=>Q .non G',rt:=Q} (jKu jUu xs) G:=by
 intro xs G Q h_;apply xe2 h_;clear h_;intro x y h_;apply ae2 h_;clear h_;intro ht kk
 rcases ht with ⟨rfl,h | ⟨ts,rfl,hl,hts⟩⟩ | ⟨p,q,ts,rfl,rfl,hp,hq,hl,hts⟩
 ·exact jVl _ _ _ _ ⟨x,x,rfl,⟨rfl,h⟩,kk⟩
 ·rw[show jKu jUu [.tup ts,.tup ts]=[some (.tup ts),some (.tup ts),none,none] from rfl]
  have hs:=sz
  wp_walk using 1,jKq,rIsi,rEqA,rNeA,qJy,qUe,isi_tl,kYx,kQl
  refine⟨by omega,by omega,ts,ts,.inl ⟨rfl,rfl,?_⟩⟩
  rw[kQs]
  refine jJ8 (fun _=>T.bl true) (by omega) (fun _ _=>trivial) ?_ ?_
  ·intro i t ht G' K K0 s hk
   wp_walk using 1,tSeq
   exact⟨t,t,rfl,al_in (hts t (List.mem_of_getElem? ht)),fun G4 s4=>hk G4 s4⟩
  ·intro D G' hD h1 h2
   refine⟨D,_,_,rfl,h1,jUs (f:=fun _=>true),?_⟩
   rw[List.all_eq_true.mpr (fun _ _=>rfl)]
   exact kk G' h2
 ·rw[show jKu jUu [.ref p,.ref q]=[some (.ref p),some (.ref q),none,none] from rfl]
  have hs:=sz
  have lp:∀G' a,Sub G G'->G a=some (.lst ts)->jKw G' (.ref a)=some ts:=fun G' a s h=>by rw[show jKw G' (.ref a)=asL (G' a) from rfl,s _ _ h];rfl
  wp_walk using 1,jKq,rIsi,rEqA,rNeA,qJy,kYi hp,kYi hq,qKv hp,qKv hq,kYx,kQl,jJi hp,jJi hq
  refine⟨by omega,by omega,ts,ts,.inr ⟨lp G p (.refl _) hp,lp G q (.refl _) hq,?_⟩⟩
  rw[kQs]
  refine jJ8 (fun _=>T.bl true) (by omega) (fun G' s=>⟨lp G' p s hp,lp G' q s hq⟩) ?_ ?_
  ·intro i t ht G' K K0 s hk
   wp_walk using 1,tSeq
   exact⟨t,t,rfl,al_in (hts t (List.mem_of_getElem? ht)),fun G4 s4=>hk G4 s4⟩
  ·intro D G' hD h1 h2
   refine⟨D,_,_,rfl,h1,jUs (f:=fun _=>true),?_⟩
   rw[List.all_eq_true.mpr (fun _ _=>rfl)]
   exact kk G' h2
theorem qKq {n:Nat} {i:Int}:PlN n (.int i):=by
 cases n with
 | zero=>exact⟨i,rfl⟩
 | succ n=>exact .inl ⟨i,rfl⟩
theorem pl_web {W:Web} (h1:W.length<=1000) (h2:∀es,es∈W->es.length<=1000):PlN 3 (encW W):=by
 refine .inr ⟨_,rfl,by simp;omega,fun u hu=> ?_⟩
 obtain⟨es,he,rfl⟩:=List.mem_map.mp hu
 refine .inr ⟨_,rfl,by have:=h2 es he;simp;omega,fun v hv=> ?_⟩
 obtain⟨e,he',rfl⟩:=List.mem_map.mp hv
 refine .inr ⟨_,rfl,by simp,fun t ht=> ?_⟩
 rcases (List.mem_cons.mp ht) with rfl | ht
 ·exact qKq
 ·rw[List.mem_singleton.mp ht];exact qKq
abbrev jUw:=jX5 4
structure Sz (W:Web):Prop where
 len:W.length<=1000
 row:∀(r:Nat) (es:List (Nat×Nat)),W[r]? =some es->es.length<=1000
def IsW (W:Web):Prop:=0<W.length/\Sym W/\(bfs W 0).length=W.length
theorem Sz.fine {W:Web} (h:Sz W) (s:Sym W):Fine W:=⟨h.len,h.row,fun _ _ _ _ he=>qJ5 (s _ _ _ _ he)⟩
def jKv:Sp3:=fun xs G Q=>∃i:Int,xs=[.int i]/\∀G',Sub G G'->Q (.bl true) G'
def kQr:List Str:=["thing"]
noncomputable def jUn:TS3:=
 (tRet (jVz (tCB rIsi (jJc (tVar 0) (jJc (tC (.ty "int")) tNil))) (qQb (tCB rIsi (jJc (tVar 0) (jJc (tC (.ty "bool")) tNil))))))
theorem jY7:RdOk jKv jUn kQr:=by
 intro xs G Q h_;apply xe1 h_;clear h_;intro i kk
 show jUn _ [some (.int i)] G
 wp_walk using 1,jUn,rIsi,qKw,qKx
 exact kk G (.refl _)
def jKe:Sp3:=fun xs G Q=>∃(W:Web) (n:Nat),xs=[encW W,.int n]/\∀G',Sub G G'->Q (.bl (decide (n<W.length))) G'
def jVe:List Str:=["web","thing"]
noncomputable def jKf:TS3:=
 (tRet (jVz (jKd jKv (jJc (tVar 1) tNil)) (jZi rLeF rLt (tC (.int 0)) (tVar 1) (tCB rLen (jJc (tVar 0) tNil)))))
theorem jUe:RdOk jKe jKf jVe:=by
 intro xs G Q h_;apply xe2 h_;clear h_;intro W n kk
 show jKf _ [some (.tup (W.map encR)),some (.int n)] G
 wp_walk using 1,jKf
 refine⟨n,rfl,fun G1 s1=> ?_⟩
 wp_walk using 1,jZi,rLeF,List.length_map
 rw[if_pos (by omega),show decide ((n:Int)<(W.length:Int))=decide (n<W.length) from decide_eq_decide.mpr (by omega)]
 exact kk G1 s1
def jX4:Sp3:=fun xs G Q=>∃e:Nat×Nat,xs=[encE e]/\∀G',Sub G G'->Q (.bl true) G'
def qKd:List Str:=["thing"]
noncomputable def jYe:TS3:=
 (tRet (jVz (tCB rIsi (jJc (tVar 0) (jJc (tC (.ty "tuple")) tNil))) (jVz (tOp rEqA (tCB rLen (jJc (tVar 0) tNil)) (tC (.int 2))) (jVz (jKd jKv (jJc (tOp rIxF (tVar 0) (tC (.int 0))) tNil)) (jKd jKv (jJc (tOp rIxF (tVar 0) (tC (.int 1))) tNil))))))
theorem kK9:RdOk jX4 jYe qKd:=by
 intro xs G Q h_;apply xe1 h_;clear h_;intro e kk
 show jYe _ [some (.tup [.int e.1,.int e.2])] G
 wp_walk using 1,jYe,rIsi,rEqA,kYh
 refine⟨true,rfl,?_⟩
 wp_walk using 1,tSeq
 refine⟨_,rfl,fun G1 s1=> ?_⟩
 wp_walk using 1,tSeq
 exact⟨_,rfl,fun G2 s2=>kk G2 (s1.trans s2)⟩
def jV1:Sp3:=fun xs G Q=>∃es:List (Nat×Nat),xs=[encR es]/\es.length<=1000/\∀G',Sub G G'->Q (.bl true) G'
def kZl:List Str:=["thing","part"]
noncomputable def jV4:TS3:=
 (tRet (jVz (tCB rIsi (jJc (tVar 0) (jJc (tC (.ty "tuple")) tNil))) (tCB rAll (jJc (jKm [false,true] (iSeq (tVar 0)) (jJg 1) jQj (jKd jX4 (jJc (tVar 1) tNil))) tNil))))
theorem kJ0:RdOk jV1 jV4 kZl:=by
 intro xs G Q h_;apply xe1 h_;clear h_;intro es h_;apply ae2 h_;clear h_;intro hl kk
 show jV4 _ [some (.tup (es.map encE)),none] G
 have hs:=sz
 wp_walk using 1,jV4,rIsi,iSeq,kYh
 refine jJ8 (fun _=>T.bl true) (by omega) (fun _ _=>trivial) ?_ ?_
 ·intro i e he G' K K0 s hk
  wp_walk using 1,tSeq
  exact⟨e,rfl,fun G4 s4=>hk G4 s4⟩
 ·intro D G' hD h1 h2
  refine⟨D,_,_,rfl,h1,jUs (f:=fun _=>true),?_⟩
  rw[List.all_eq_true.mpr (fun _ _=>rfl)]
  exact kk G' h2
noncomputable def jQ5:Sp3:=fun xs G Q=>∃(W:Web) (r i:Nat) (e:Nat×Nat),xs=[encW W,.int r,.int i]/\en W r i=some e/\∀G' c,(c=true↔en W e.1 e.2=some (r,i))->Sub G G'->Q (.bl c) G'
def kKv:List Str:=["rooms","room","door","end"]
noncomputable def jQ7:TS3:=
 (tSeq (tAsg (tOp rIxF (tOp rIxF (tVar 0) (tVar 1)) (tVar 2)) (jJg 3))
 (tSeq (tIfS (tNot (jJ9 (jKd jKe (jJc (tVar 0) (jJc (tOp rIxF (tVar 3) (tC (.int 0))) tNil))))) (tRet (tC (.bl false))) jQr)
 (tSeq (tIfS (tNot (jJ9 (jZi rLeF rLt (tC (.int 0)) (tOp rIxF (tVar 3) (tC (.int 1))) (tCB rLen (jJc (tOp rIxF (tVar 0) (tOp rIxF (tVar 3) (tC (.int 0)))) tNil))))) (tRet (tC (.bl false))) jQr)
 (tRet (tOp rEqA (tOp rIxF (tOp rIxF (tVar 0) (tOp rIxF (tVar 3) (tC (.int 0)))) (tOp rIxF (tVar 3) (tC (.int 1)))) (tTup (jJc (tVar 1) (jJc (tVar 2) tNil))))))))
theorem jX9:RdOk jQ5 jQ7 kKv:=by
 intro xs G Q h_;apply xe4 h_;clear h_;intro W r i e h_;apply ae2 h_;clear h_;intro he kk
 show jQ7 _ [some (.tup (W.map encR)),some (.int r),some (.int i),none] G
 obtain⟨es,h1,h2⟩:=jYs he
 have hs:=sz
 wp_walk using 1,jQ7,jYr h1,encR,kY0 h2,encE
 refine⟨W,e.1,rfl,fun G1 s1=>⟨_,rfl,?_⟩⟩
 by_cases hn:e.1<W.length
 ·rw[if_neg (by simp[hn])]
  have e1:W[e.1]? =some W[e.1]:=List.getElem?_eq_getElem hn
  wp_walk using 1,jZi,rLeF,rEqA,jYr e1,encR,List.length_map
  rw[if_pos (by omega)]
  by_cases hj:e.2<(W[e.1]).length
  ·rw[if_neg (by simp;omega)]
   have e2:(W[e.1])[e.2]? =some ((W[e.1])[e.2]):=List.getElem?_eq_getElem hj
   have e3:en W e.1 e.2=some ((W[e.1])[e.2]):=kY1 e1 e2
   refine⟨_,kY0 e2,by omega,_,qUk (f:=(r,i)),?_⟩
   refine kk G1 _ ?_ s1
   rw[e3,decide_eq_true_eq,Option.some.injEq]
  ·rw[if_pos (by simp;omega)]
   refine kk G1 false (Iff.intro (fun z=>Bool.noConfusion z) fun z=> ?_) s1
   obtain⟨us,u1,u2⟩:=jYs z
   rw[e1] at u1;cases u1
   exact absurd (List.getElem?_eq_some_iff.mp u2).1 hj
 ·rw[if_pos (by simp[hn])]
  exact kk G1 false (Iff.intro (fun z=>Bool.noConfusion z) fun z=>absurd (qJ5 z) hn) s1
def jK1:Sp3:=fun xs G Q=>∃W:Web,xs=[encW W]/\Sz W/\∀G' c,(c=true↔Sym W)->Sub G G'->Q (.bl c) G'
def jY3:List Str:=["rooms","room","ends","door"]
noncomputable def jK3:TS3:=
 (tSeq (tFor (iEnT (jJc (tVar 0) tNil)) (gTup 2 (jKg (jJg 1) (jKg (jJg 2) gNil))) (tFor (jKx (jJc (tCB rLen (jJc (tVar 2) tNil)) tNil)) (jJg 3) (tIfS (tNot (jJ9 (jKd jQ5 (jJc (tVar 0) (jJc (tVar 1) (jJc (tVar 3) tNil)))))) (tRet (tC (.bl false))) jQr)))
 (tRet (tC (.bl true))))
theorem jVn:RdOk jK1 jK3 jY3:=by
 intro xs G Q h_;apply xe1 h_;clear h_;intro W h_;apply ae2 h_;clear h_;intro hz kk
 show jK3 _ [some (.tup (W.map encR)),none,none,none] G
 have hs:=sz
 have hl:=hz.len
 wp_walk using 1,jK3,jJ6,iEnT
 let J1:Nat->St3->Gp->Prop:=fun k τ G'=>∃(v1 v2 v3:Option T),τ=[some (.tup (W.map encR)),v1,v2,v3]/\(∀r i e,r<k->en W r i=some e->en W e.1 e.2=some (r,i))/\Sub G G'
 refine⟨J1,?_,?_,?_,?_⟩
 ·exact xi3 _ _ _ rfl ⟨fun r i e h=>absurd h (Nat.not_lt_zero _),.refl _⟩
 ·intros;trivial
 ·intro k y τ G1 hy h_;apply xe3 h_;clear h_;intro v1 v2 v3 h_;apply ae2 h_;clear h_;intro h1 h2
  obtain⟨z,hzz,rfl⟩:=kJf hy
  obtain⟨es,he,rfl⟩:=jKr hzz
  have hel:=hz.row k es he
  wp_walk using 1,jJ6,jKx,encR,List.length_map
  refine⟨by omega,by omega,?_⟩
  rw[show ((es.length:Nat):Int).toNat=es.length by omega]
  let J2:Nat->St3->Gp->Prop:=fun j τ G'=>∃(v3:Option T),τ=[some (.tup (W.map encR)),some (.int (k:Nat)),some (.tup (es.map encE)),v3]/\(∀i e,i<j->en W k i=some e->en W e.1 e.2=some (k,i))/\Sub G G'
  refine⟨J2,?_,?_,?_,?_⟩
  ·exact xi1 _ rfl ⟨fun i e h=>absurd h (Nat.not_lt_zero _),h2⟩
  ·intros;trivial
  ·intro j x τ G2 hx h_;apply xe1 h_;clear h_;intro v3 h_;apply ae2 h_;clear h_;intro i1 i2
   obtain⟨hj,rfl⟩:=jQv hx
   have hej:es[j]? =some es[j]:=List.getElem?_eq_getElem hj
   have hen:=kY1 he hej
   wp_walk using 1,tSeq
   refine⟨W,k,j,_,rfl,hen,fun G3 c hc s3=>⟨c,rfl,?_⟩⟩
   cases c with
   | false=>
    rw[if_pos rfl]
    refine kk G3 false (Iff.intro (fun z=>Bool.noConfusion z) fun sy=> ?_) (i2.trans s3)
    exact absurd (hc.mpr (sy _ _ _ _ hen)) Bool.false_ne_true
   | true=>
    rw[if_neg (by decide)]
    refine xi1 _ rfl ⟨fun i e hi h=> ?_,i2.trans s3⟩
    rcases Nat.lt_or_eq_of_le (Nat.le_of_lt_succ hi) with q | rfl
    ·exact i1 i e q h
    ·rw[hen] at h;cases h;exact hc.mp rfl
  ·intro τ G2 h_;apply xe1 h_;clear h_;intro v3 h_;apply ae2 h_;clear h_;intro i1 i2
   rw[jVj] at i1
   refine xi3 _ _ _ rfl ⟨fun r i e hr h=> ?_,i2⟩
   rcases Nat.lt_or_eq_of_le (Nat.le_of_lt_succ hr) with q | rfl
   ·exact h1 r i e q h
   ·obtain⟨us,u1,u2⟩:=jYs h
    rw[he] at u1;cases u1
    exact i1 i e (List.getElem?_eq_some_iff.mp u2).1 h
 ·intro τ G1 h_;apply xe3 h_;clear h_;intro v1 v2 v3 h_;apply ae2 h_;clear h_;intro h1 h2
  rw[jJ1,List.length_map] at h1
  wp_walk using 1,tSeq
  exact kk G1 true (Iff.intro (fun _ r i s j h=>h1 r i (s,j) (qJ5 h) h) fun _=>rfl) h2
def jVh:Sp3:=fun xs G Q=>∃W:Web,xs=[encW W]/\Sz W/\∀G' c,(c=true↔IsW W)->Sub G G'->Q (.bl c) G'
def qKc:List Str:=["thing","part"]
noncomputable def jYd:TS3:=
 (tSeq (tIfS (tOr (tNot (jJ9 (tCB rIsi (jJc (tVar 0) (jJc (tC (.ty "tuple")) tNil))))) (jJ9 (tOp rEqA (tCB kXn (jJc (tVar 0) tNil)) (tC (.int 0))))) (tRet (tC (.bl false))) jQr)
 (tSeq (tIfS (tNot (jJ9 (tCB rAll (jJc (jKm [false,true] (iSeq (tVar 0)) (jJg 1) jQj (jKd jV1 (jJc (tVar 1) tNil))) tNil)))) (tRet (tC (.bl false))) jQr)
 (tRet (jVz (jKd jK1 (jJc (tVar 0) tNil)) (tOp rEqA (tCB kXn (jJc (jKd jK0 (jJc (tVar 0) (jJc (tC (.int 0)) tNil))) tNil)) (tCB kXn (jJc (tVar 0) tNil)))))))
theorem kK8:RdOk jVh jYd qKc:=by
 intro xs G Q h_;apply xe1 h_;clear h_;intro W h_;apply ae2 h_;clear h_;intro hz kk
 show jYd _ [some (.tup (W.map encR)),none] G
 have hs:=sz
 have hl:=hz.len
 wp_walk using 1,jYd,rIsi,kXn,rEqA,iSeq,kYh,lenG,List.length_map
 refine⟨_,kYv (c:=0),?_⟩
 by_cases h0:W.length=0
 ·rw[if_pos (decide_eq_true h0)]
  exact kk G false (Iff.intro (fun z=>Bool.noConfusion z) fun z=>by have:=z.1;omega) (.refl _)
 rw[if_neg (by simpa using (h0))]
 refine jJ8 (fun _=>T.bl true) (by omega) (fun _ _=>trivial) ?_ ?_
 ·intro i es he G' K K0 s hk
  wp_walk using 1,tSeq
  exact⟨es,rfl,hz.row i es he,fun G4 s4=>hk G4 s4⟩
 intro D G1 hD h1 s1
 refine⟨D,_,_,rfl,h1,jUs (f:=fun _=>true),true,by rw[List.all_eq_true.mpr (fun _ _=>rfl)],?_⟩
 rw[if_neg (by decide)]
 refine⟨W,rfl,hz,fun G2 c hc s2=> ?_⟩
 cases c with
 | false=>
  refine⟨false,rfl,?_⟩
  rw[if_neg (by decide)]
  exact kk G2 false (Iff.intro (fun z=>Bool.noConfusion z) fun z=>absurd (hc.mpr z.2.1) Bool.false_ne_true) (s1.trans s2)
 | true=>
  have sy:=hc.mp rfl
  refine⟨true,rfl,?_⟩
  rw[if_pos rfl]
  refine⟨W,0,rfl,hz.fine sy,by omega,fun d G3 kvs hd hG3 hk s3=>⟨kvs.length,by simp only[hG3],_,kYv,?_⟩⟩
  have hkl:kvs.length=(bfs W 0).length:=by have:=congrArg List.length hk;rwa [List.length_map,List.length_map] at this
  refine kk G3 _ ?_ ((s1.trans s2).trans s3)
  rw[decide_eq_true_eq,hkl]
  exact⟨fun z=>⟨by omega,sy,z⟩,fun z=>z.2.2⟩
def ix:List Nat->Nat->Nat
 | [],_=>0
 | a::l,x=>if a=x then 0 else ix l x+1
def endT (F:List Nat) (es:List (Nat×Nat)):List (Nat×Nat):=es.map fun e=>(ix F e.1,e.2)
def kJt (W:Web) (r:Nat):Web:=(bfs W r).map fun q=>endT (bfs W r) (row W q)
theorem kX3 {F:List Nat}:numT (jJ7 F)=(List.range F.length).map fun i:Nat=>T.tup [.int (i:Nat),.int (F.getD i 0:Nat)]:=by
 apply List.ext_getElem?
 intro i
 by_cases hi:i<F.length
 ·rw[jVq (x:= .int (F[i]:Nat)) (by simp[jJ7,hi]),List.getElem?_map,List.getElem?_range hi]
  show _=some (T.tup [T.int (i:Nat),T.int ((F.getD i 0:Nat):Int)])
  rw[show F.getD i 0=F[i] by simp[List.getD,hi]]
 ·rw[List.getElem?_eq_none (by rw[qJi];simp[jJ7];omega),List.getElem?_eq_none (by simp;omega)]
def numK (F:List Nat):List (Int×T):=(List.range F.length).map fun i:Nat=>((F.getD i 0:Nat),T.int (i:Nat))
theorem kX4 {F:List Nat}:(numK F).map (·.1)=F.map fun n:Nat=>(n:Int):=by
 unfold numK
 apply List.ext_getElem?
 intro i
 by_cases hi:i<F.length
 ·simp[hi]
 ·rw[List.getElem?_eq_none (by simp;omega),List.getElem?_eq_none (by simp;omega)]
theorem ix_at {x:Nat}:∀ {F:List Nat},x∈F->F[ix F x]? =some x/\∀k,k<ix F x->F[k]? ≠some x
 | a::l,h=>by
  by_cases e:a=x
  ·rw[ix,if_pos e];exact⟨by rw[e];rfl,fun k hk=>absurd hk (Nat.not_lt_zero _)⟩
  ·rcases (List.mem_cons.mp h) with z | z
   ·exact absurd z.symm e
   ·obtain⟨h1,h2⟩:=ix_at z
    rw[ix,if_neg e]
    refine⟨by simpa using h1,fun k hk=> ?_⟩
    cases k with
    | zero=>intro q;exact e (by simpa using q)
    | succ k=>simpa using h2 k (by omega)
theorem jZf {κ:Type} [DecidableEq κ]:∀ {kvs:List (κ×T)} {k:κ} {v:T} {j:Nat},kvs[j]? =some (k,v)->(∀i p,i<j->kvs[i]? =some p->p.1≠k)->valT kvs k=some v
 | [],_,_,j,h,_=>by simp at h
 | p::r,k,v,0,h,_=>by
  have:p=(k,v):=by simpa using h
  subst this
  simp[valT]
 | p::r,k,v,j+1,h,h2=>by
  have e:p.1≠k:=h2 0 p (Nat.zero_lt_succ _) rfl
  have:=jZf (kvs:=r) (k:=k) (v:=v) (j:=j) (by simpa using h) fun i q hi hq=>h2 (i+1) q (by omega) (by simpa using hq)
  unfold valT at this ⊢
  rw[List.find?_cons_of_neg (by simpa using e)]
  exact this
theorem qUb {G:Gp} {p:Addr} {kvs:List (L2.Key×T)} {x:Int} {t:T} (h:G p=some (.dck kvs)) (hv:valT kvs (Sum.inl x)=some t):ixR G (.ref p) (.int x)=some t:=by
 simp only[ixR,seqT,h,asL,dAt,jVt,hv]
theorem kV0 {F:List Nat} {x:Nat} (nd:F.Nodup) (hx:x∈F):valT ((numK F).map fun kv=>((Sum.inl kv.1:L2.Key),kv.2)) (Sum.inl (x:Int))=some (.int (ix F x:Nat)):=by
 obtain⟨h1,h2⟩:=ix_at hx
 have hl:ix F x<F.length:=(List.getElem?_eq_some_iff.mp h1).1
 have at_:∀i,i<F.length->((numK F).map fun kv=>((Sum.inl kv.1:L2.Key),kv.2))[i]? =some (Sum.inl ((F.getD i 0:Nat):Int),T.int (i:Nat)):=fun i hi=>by simp[numK,hi]
 refine jZf (j:=ix F x) ?_ fun i p hi hp=> ?_
 ·rw[at_ _ hl,show F.getD (ix F x) 0=x by simp[List.getD,h1]]
 ·rw[at_ i (by omega)] at hp
  cases hp
  intro z
  have z1:((F.getD i 0:Nat):Int)=(x:Int):=Sum.inl.inj z
  refine h2 i hi ?_
  rw[List.getElem?_eq_getElem (by omega)]
  congr 1
  have:F.getD i 0=F[i]'(by omega):=by simp[List.getD,show i<F.length by omega]
  omega
def jX1:Sp3:=fun xs G Q=>∃(W:Web) (r0:Nat),xs=[encW W,.int (r0:Nat)]/\Fine W/\r0<W.length/\∀G',Sub G G'->Q (encW (kJt W r0)) G'
def kU1:List Str:=["_law_web","_law_room","_law_order","_law_at","_law_other","_law_door","_law_place","_law_k","_law_one"]
noncomputable def kJ1:TS3:=
 (tSeq (tAsg (tLst (jJc (tVar 1) tNil)) (jJg 2))
 (tSeq (tAsg (tC (.int 0)) (jJg 3))
 (tSeq (jZh (jJ9 (tOp rLt (tVar 3) (tCB rLen (jJc (tVar 2) tNil)))) (tSeq (tFor (iSeq (tOp rIxF (tVar 0) (tOp rIxF (tVar 2) (tVar 3)))) (gTup 2 (jKg (jJg 4) (jKg (jJg 5) gNil))) (tIfS (jJ9 (tOp jK9 (tVar 4) (tVar 2))) (jU4 (tBM "list" jK4 (tVar 2) (jJc (tVar 4) tNil))) jQr))
 (tAsg (tOp jQg (tVar 3) (tC (.int 1))) (jJg 3))))
 (tSeq (tAsg (tCB kXp (jJc (jKm [false,false,false,false,false,false,false,true,true] (jZb (jJc (tVar 2) tNil)) (gTup 2 (jKg (jJg 7) (jKg (jJg 8) gNil))) jQj (tTup (jJc (tVar 8) (jJc (tVar 7) tNil)))) tNil)) (jJg 6))
 (tRet (tCB jKs (jJc (jKm [false,false,false,false,false,false,false,false,true] (iSeq (tVar 2)) (jJg 8) jQj (tCB jKs (jJc (jKm [false,false,false,false,true,true,false,false,false] (iSeq (tOp rIxF (tVar 0) (tVar 8))) (gTup 2 (jKg (jJg 4) (jKg (jJg 5) gNil))) jQj (tTup (jJc (tOp rIxF (tVar 6) (tVar 4)) (jJc (tVar 5) tNil)))) tNil))) tNil)))))))
noncomputable def kXj:TS3:=(tSeq (tAsg (tCB kXp (jJc (jKm [false,false,false,false,false,false,false,true,true] (jZb (jJc (tVar 2) tNil)) (gTup 2 (jKg (jJg 7) (jKg (jJg 8) gNil))) jQj (tTup (jJc (tVar 8) (jJc (tVar 7) tNil)))) tNil)) (jJg 6))
 (tRet (tCB jKs (jJc (jKm [false,false,false,false,false,false,false,false,true] (iSeq (tVar 2)) (jJg 8) jQj (tCB jKs (jJc (jKm [false,false,false,false,true,true,false,false,false] (iSeq (tOp rIxF (tVar 0) (tVar 8))) (gTup 2 (jKg (jJg 4) (jKg (jJg 5) gNil))) jQj (tTup (jJc (tOp rIxF (tVar 6) (tVar 4)) (jJc (tVar 5) tNil)))) tNil))) tNil))))
theorem kZ3:kJ1=tSeq (tAsg (tLst (jJc (tVar 1) tNil)) (jJg 2)) (tSeq (tAsg (tC (.int 0)) (jJg 3)) (tSeq (jZh (jJ9 (tOp rLt (tVar 3) (tCB rLen (jJc (tVar 2) tNil)))) (tSeq (tFor (iSeq (tOp rIxF (tVar 0) (tOp rIxF (tVar 2) (tVar 3)))) (gTup 2 (jKg (jJg 4) (jKg (jJg 5) gNil))) (tIfS (jJ9 (tOp jK9 (tVar 4) (tVar 2))) (jU4 (tBM "list" jK4 (tVar 2) (jJc (tVar 4) tNil))) jQr))
 (tAsg (tOp jQg (tVar 3) (tC (.int 1))) (jJg 3)))) kXj)):=rfl
theorem tf3_ok {D':Ends3} {G:Gp} {p:Addr} {W:Web} {F:List Nat} {v1 v3 v4 v5:Option T} (fine:Fine W) (nd:F.Nodup) (hlt:∀x,x∈F->x<W.length) (cl:∀q,q∈F->∀e,e∈row W q->e.1∈F) (hp:G p=some (.lst (jJ7 F)))
  (kk:∀G',Sub G G'->D'.rt (encW (F.map fun q=>endT F (row W q))) G'):kXj D' [some (.tup (W.map encR)),v1,some (.ref p),v3,v4,v5,none,none,none] G:=by
 have hs:=sz
 have hFl:=jUx nd hlt
 have hWl:=fine.len
 wp_walk using 1,kXj,jZb,iSeq
 refine⟨_,by simp only[jKw,hp,asL];rfl,?_⟩
 rw[kX3]
 refine jJ8 (fun i:Nat=>T.tup [.int (F.getD i 0:Nat),.int (i:Nat)]) (by simp;omega) (fun G' s=>by simp only[jKw,s _ _ hp,asL]) ?_ ?_
 ·intro i k hk G' K K0 s hkk
  wp_walk using 1,tSeq
  exact⟨by omega,hkk _ (.refl _)⟩
 ·intro q G1 hq0 hq1 s1
  wp_walk using 1,tSeq
  have hq2:G1 q=some (.lst ((numK F).map fun kv=> .tup [.int kv.1,kv.2])):=by rw[hq1,numK,List.map_map];rfl
  refine⟨q,numK F,rfl,hq2,?_,by simp[numK];omega,fun nn hnn=> ?_⟩
  ·rw[kX4]
   exact List.Pairwise.map _ (fun a b h z=>h (by omega)) nd
  ·have s2:Sub G (gup G1 nn (.dck ((numK F).map fun kv=>(Sum.inl kv.1,kv.2)))):=s1.trans (.new hnn)
   have hn2:(gup G1 nn (.dck ((numK F).map fun kv=>((Sum.inl kv.1:L2.Key),kv.2)))) nn=some (.dck ((numK F).map fun kv=>(Sum.inl kv.1,kv.2))):=jJd
   generalize gup G1 nn (.dck ((numK F).map fun kv=>((Sum.inl kv.1:L2.Key),kv.2)))=G2 at s2 hn2
   have hp2:=s2 _ _ hp
   refine⟨_,jJi hp2,?_⟩
   refine jJ8 (es:=F) (enc:=fun n:Nat=>T.int (n:Nat)) (fun q=>encR (endT F (row W q))) (by omega) (fun G' s=>jJi (s _ _ hp2)) ?_ ?_
   ·intro i x hx G' K K0 s hkk
    have hxF:=List.mem_of_getElem? hx
    have hxW:=hlt x hxF
    obtain⟨es,hrow⟩:∃es,W[x]? =some es:=⟨_,List.getElem?_eq_getElem hxW⟩
    have hel:=fine.row x es hrow
    wp_walk using 1,iSeq,jYr hrow,encR
    refine jJ8 (es:=es) (enc:=encE) (fun e=>encE (ix F e.1,e.2)) (by omega) (fun _ _=>trivial) ?_ ?_
    ·intro j e he G'' K' K0' s' hkk'
     have heF:e.1∈F:=cl x hxF e (by rw[jX7 hrow];exact List.mem_of_getElem? he)
     wp_walk using 1,encE
     exact⟨_,qUb (s' _ _ (s _ _ hn2)) (kV0 nd heF),by omega,hkk' _ (.refl _)⟩
    ·intro w G3 hw0 hw3 s3
     wp_walk using 1,jJi hw3
     have:=hkk G3 s3
     unfold endT at this
     rw[jX7 hrow,encR,List.map_map] at this
     exact this
   ·intro w G3 hw0 hw3 s3
    wp_walk using 1,jJi hw3
    have:=kk G3 (s2.trans s3)
    unfold encW at this
    rw[List.map_map] at this
    exact this
theorem kK5:RdOk jX1 kJ1 kU1:=by
 intro xs G Q h_;apply xe2 h_;clear h_;intro W r0 h_;apply ae3 h_;clear h_;intro fine hr0 kk
 rw[show jKu kU1 [encW W,.int (r0:Nat)]=[some (.tup (W.map encR)),some (.int (r0:Nat)),none,none,none,none,none,none,none] from rfl,kZ3]
 have hs:=sz
 have hl:=fine.len
 wp_walk using 1,jZh,jJ6
 refine⟨by omega,fun p hp=> ?_⟩
 let P:Nat->St3->Gp->Prop:=fun m τ G'=>∃(k:Nat) (v4 v5:Option T) (F:List Nat),τ=[some (.tup (W.map encR)),some (.int (r0:Nat)),some (.ref p),some (.int (k:Nat)),v4,v5,none,none,none]/\G' p=some (.lst (jJ7 F))/\Found W r0 F/\Sub G G'/\bfs W r0=bfsN W (W.length-k) k F/\m=W.length-k/\∀q,q∈F.take k->∀e,e∈row W q->e.1∈F
 refine⟨P,⟨_,0,none,none,[r0],rfl,jJd,⟨by simp,by simpa using hr0,fun S h0 _ x hx=>by rw[List.mem_singleton] at hx;rw[hx];exact h0⟩,.new hp,rfl,rfl,fun q hq=>by simp at hq⟩,?_⟩
 intro m τ G1 h_;apply xe4 h_;clear h_;intro k v4 v5 F h_;apply ae6 h_;clear h_;intro h1 h2 h3 hB e4_ hcl
 subst e4_
 wp_walk using 1,iSeq,jJi h1,jVa h1
 have hFl:=jUx h2.nd h2.lt
 split
 ·rename_i hc
  have hat:k<F.length:=by rw[jJ7,List.length_map] at hc;omega
  have hF:F[k]? =some F[k]:=List.getElem?_eq_getElem hat
  have hfm:F[k]∈F:=List.getElem_mem hat
  generalize F[k]=r at hF hfm
  have hrW:=h2.lt r hfm
  have hW:W[r]? =some W[r]:=List.getElem?_eq_getElem hrW
  generalize W[r]=es at hW
  have hatI:L2.atI (jJ7 F) (k:Nat)=some (.int (r:Nat)):=by rw[atN];simp[jJ7,hF]
  wp_walk using 1,hatI,jYr hW,encR
  let N:St3->Gp->Prop:=P (W.length-(k+1))
  refine⟨N,fun τ' G' hN=>⟨_,by omega,hN⟩,?_⟩
  let J1:Nat->St3->Gp->Prop:=fun j τ G'=>∃(v4 v5:Option T) (X:List Nat),τ=[some (.tup (W.map encR)),some (.int (r0:Nat)),some (.ref p),some (.int (k:Nat)),v4,v5,none,none,none]/\G' p=some (.lst (jJ7 (F++X)))/\Found W r0 (F++X)/\Sub G G'/\F++X=vis F (es.take j)/\∀e,e∈es.take j->e.1∈F++X
  refine⟨J1,?_,?_,?_,?_⟩
  ·exact⟨_,_,[],rfl,by rw[List.append_nil];exact h1,by rw[List.append_nil];exact h2,h3,by rw[List.append_nil];rfl,fun e z=>by simp at z⟩
  ·intros;trivial
  ·intro j x τ G2 hx0 h_;apply xe3 h_;clear h_;intro v4 v5 X h_;apply ae5 h_;clear h_;intro i1 i3 i4 iB i5
   obtain⟨e,hx,rfl⟩:=jKr hx0
   have hen:=kY1 hW hx
   have hv:=jZs (F:=F) hx
   rw[<-iB] at hv
   have hte:es.take (j+1)=es.take j++[e]:=by rw[List.take_succ,hx];rfl
   wp_walk using 1,encE,jK9,qJx i1,jKp i1,i1
   by_cases hm:e.1∈F++X
   ·have hct:(F++X).contains e.1=true:=List.contains_iff_mem.mpr hm
    rw[if_neg (by rw[hct];decide)]
    rw[if_pos hct] at hv
    refine⟨_,_,X,rfl,i1,i3,i4,hv.symm,fun e' z=> ?_⟩
    rw[hte,List.mem_append,List.mem_singleton] at z
    rcases z with z | rfl
    ·exact i5 e' z
    ·exact hm
   ·have hct:(F++X).contains e.1=false:=by rw[<-Bool.not_eq_true,List.contains_iff_mem];exact hm
    rw[if_pos hct]
    rw[if_neg (by rw[hct];decide)] at hv
    have hFl:=jUx i3.nd i3.lt
    refine⟨by rw[jJ7,List.length_map];omega,_,_,X++[e.1],rfl,by rw[jJd,<-List.append_assoc];simp[jJ7],?_,i4.over hp,by rw[<-List.append_assoc];exact hv.symm,fun e' z=> ?_⟩
    ·rw[<-List.append_assoc]
     refine⟨?_,?_,?_⟩
     ·rw[List.nodup_append];exact⟨i3.nd,by simp,fun a ha b hb=>by rw[List.mem_singleton] at hb;subst hb;rintro rfl;exact hm ha⟩
     ·intro x hx
      rw[List.mem_append,List.mem_singleton] at hx
      rcases hx with hx | rfl
      ·exact i3.lt x hx
      ·exact fine.rng _ _ _ _ hen
     ·intro S h0 hc x hx
      rw[List.mem_append,List.mem_singleton] at hx
      rcases hx with hx | rfl
      ·exact i3.got S h0 hc x hx
      ·exact hc _ _ _ _ (h2.got S h0 hc r hfm) hen
    ·rw[hte,List.mem_append,List.mem_singleton] at z
     rw[<-List.append_assoc]
     rcases z with z | rfl
     ·exact List.mem_append_left _ (i5 e' z)
     ·exact List.mem_append_right _ (by simp)
  ·intro τ G' h_;apply xe3 h_;clear h_;intro v4 v5 X h_;apply ae5 h_;clear h_;intro i1 i3 i4 iB i5
   wp_walk using 1,tSeq
   rw[List.length_map,List.take_length] at iB i5
   refine⟨k+1,_,_,F++X,rfl,i1,i3,i4,?_,rfl,fun q hq e he=> ?_⟩
   ·rw[hB,show W.length-k=W.length-(k+1)+1 by omega,kKo hF,jX7 hW,iB]
   ·rw[List.take_succ,List.getElem?_append_left hat,hF,List.take_append_of_le_length (by omega)] at hq
    rcases (List.mem_append.mp hq) with hq | hq
    ·exact List.mem_append_left _ (hcl q hq e he)
    ·have:q=r:=by simpa using hq
     subst this
     rw[jX7 hW] at he;exact i5 e he
 ·rename_i hc
  have hkF:F.length<=k:=by rw[jJ7,List.length_map] at hc;omega
  have hb:bfs W r0=F:=by rw[hB,kKp hkF]
  rw[List.take_of_length_le hkF] at hcl
  refine tf3_ok fine h2.nd h2.lt hcl h1 fun G' s'=> ?_
  have:=kk G' (h3.trans s')
  unfold kJt at this
  rw[hb] at this
  exact this
abbrev DD:=List ((Nat×Nat)×(Nat×Nat))
def getE (e:Nat×Nat) (D:DD):Option (Nat×Nat):=(D.find? fun p=>decide (p.1=e)).map (·.2)
def putE (D:DD) (k v:Nat×Nat):DD:=if (D.any fun p=>decide (p.1=k))=true then D.map (fun p=>if p.1=k then (p.1,v) else p) else D++[(k,v)]
def tieE (D:DD) (a b:Nat×Nat):DD:=putE (putE D a b) b a
def mxE (D:DD):Nat:=D.foldl (fun m p=>if p.1.1>m then p.1.1 else m) 0
noncomputable def jQk (D:DD) (e:Nat×Nat) (r d:Nat):List DD:=
 if (getE e D).isSome=true then [D] else (List.range (min (mxE D+2) r-e.1)).flatMap fun k=>(List.range d).filterMap fun i=>if (getE (e.1+k,i) D).isSome=true then none else some (tieE D e (e.1+k,i))
def rowL (r d room:Nat) (l:List DD):Nat->List DD
 | 0=>l
 | j+1=>(rowL r d room l j).flatMap fun D=>jQk D (room,j) r d
def allL (r d:Nat):Nat->List DD
 | 0=>[[]]
 | k+1=>rowL r d k (allL r d k) d
def webD (r d:Nat) (D:DD):Web:=(List.range r).map fun k=>(List.range d).map fun i=>(getE (k,i) D).getD (0,0)
def symB (W:Web):Bool:=(List.range W.length).all fun r=>(List.range (row W r).length).all fun i=>match en W r i with
 | some e=>decide (en W e.1 e.2=some (r,i))
 | none=>true
def isWB (W:Web):Bool:=decide (0<W.length)&&(symB W&&decide ((bfs W 0).length=W.length))
def evP (r d:Nat):List Web:=((allL r d r).map (webD r d)).filter isWB
noncomputable def prs:Nat->List (Nat×Nat)->List DD
 | _,[]=>[[]]
 | 0,_::_=>[]
 | n+1,f::rest=>(prs n rest).map ((f,f):: ·)++(List.range rest.length).flatMap fun k=>(prs n (rest.take k++rest.drop (k+1))).map ((f,rest.getD k (0,0)):: ·)
def allE (r d:Nat):List (Nat×Nat):=(List.range r).flatMap fun k=>(List.range d).map fun i=>(k,i)
def jUf (p:DD):DD:=(p++p.map fun x=>(x.2,x.1)).foldl (fun D x=>putE D x.1 x.2) []
def evL (r d:Nat):List Web:=((prs 9 (allE r d)).map fun p=>webD r d (jUf p)).filter fun W=>decide (kJt W 0=W)
def keyR (es:List (Nat×Nat)):List L2.K1:=es.map fun p=> .inr [.inl (p.1:Int),.inl (p.2:Int)]
def keyW (V:Web):L2.TKey:=V.map fun es=> .inr (keyR es)
def risB:List Web->Bool
 | a::b::l=>decide (ltK (keyW a) (keyW b)=some true)&&risB (b::l)
 | _=>true
def okL (l:List DD):Bool:=decide (l.length<=5000)&&l.all fun D=>decide (D.length<=20)&&D.all fun p=>decide (p.1.1<12)&&decide (p.1.2<12)
noncomputable def chkS (r d:Nat):Bool:=decide (evP r d=evL r d)&&(risB (evL r d)&&(((List.range r).all fun k=>(List.range (d+1)).all fun j=>okL (rowL r d k (allL r d k) j))&&(((allL r d r).all fun D=>(allE r d).all fun e=>(getE e D).isSome)&&((prs 9 (allE r d)).all fun p=>decide (p.length<=20)&&(((allE r d).all fun e=>(getE e (jUf p)).isSome)&&symB (webD r d (jUf p)))))))
noncomputable def szF (most doors:Nat):List (Nat×Nat):=(List.range 8).flatMap fun w=>(((List.range (7-doors)).map (· +doors)).filter fun m=>decide ((w+1)*m<=most)&&(decide (m>0)||decide (w+1<4))).map fun m=>(w+1,m)
theorem chk10:chkS 1 0=true:=by decide +kernel
theorem chk11:chkS 1 1=true:=by decide +kernel
theorem chk12:chkS 1 2=true:=by decide +kernel
theorem chk13:chkS 1 3=true:=by decide +kernel
theorem chk14:chkS 1 4=true:=by decide +kernel
theorem chk15:chkS 1 5=true:=by decide +kernel
theorem chk16:chkS 1 6=true:=by decide +kernel
theorem chk20:chkS 2 0=true:=by decide +kernel
theorem chk21:chkS 2 1=true:=by decide +kernel
theorem chk22:chkS 2 2=true:=by decide +kernel
theorem chk23:chkS 2 3=true:=by decide +kernel
theorem chk24:chkS 2 4=true:=by decide +kernel
theorem chk30:chkS 3 0=true:=by decide +kernel
theorem chk31:chkS 3 1=true:=by decide +kernel
theorem chk32:chkS 3 2=true:=by decide +kernel
theorem chk41:chkS 4 1=true:=by decide +kernel
theorem chk42:chkS 4 2=true:=by decide +kernel
theorem chk51:chkS 5 1=true:=by decide +kernel
theorem chk61:chkS 6 1=true:=by decide +kernel
theorem chk71:chkS 7 1=true:=by decide +kernel
theorem chk81:chkS 8 1=true:=by decide +kernel
theorem kV7:szF 8 0=[(1,0),(1,1),(1,2),(1,3),(1,4),(1,5),(1,6),(2,0),(2,1),(2,2),(2,3),(2,4),(3,0),(3,1),(3,2),(4,1),(4,2),(5,1),(6,1),(7,1),(8,1)]:=by decide +kernel
theorem chk_of {s:Nat×Nat} (h:s∈szF 8 0):(1<=s.1/\s.1<=9/\s.2<=6)/\chkS s.1 s.2=true:=by
 rw[kV7] at h
 simp only[List.mem_cons,List.not_mem_nil,or_false] at h
 rcases h with rfl | rfl | rfl | rfl | rfl | rfl | rfl | rfl | rfl | rfl | rfl | rfl | rfl | rfl | rfl | rfl | rfl | rfl | rfl | rfl | rfl
 ·exact⟨by decide,chk10⟩
 ·exact⟨by decide,chk11⟩
 ·exact⟨by decide,chk12⟩
 ·exact⟨by decide,chk13⟩
 ·exact⟨by decide,chk14⟩
 ·exact⟨by decide,chk15⟩
 ·exact⟨by decide,chk16⟩
 ·exact⟨by decide,chk20⟩
 ·exact⟨by decide,chk21⟩
 ·exact⟨by decide,chk22⟩
 ·exact⟨by decide,chk23⟩
 ·exact⟨by decide,chk24⟩
 ·exact⟨by decide,chk30⟩
 ·exact⟨by decide,chk31⟩
 ·exact⟨by decide,chk32⟩
 ·exact⟨by decide,chk41⟩
 ·exact⟨by decide,chk42⟩
 ·exact⟨by decide,chk51⟩
 ·exact⟨by decide,chk61⟩
 ·exact⟨by decide,chk71⟩
 ·exact⟨by decide,chk81⟩
abbrev Kvs:=List (L2.TKey×T)
def kvD (D:DD):Kvs:=D.map fun p=>(keyE p.1,encE p.2)
theorem kUk {a b:Nat×Nat}:keyE a=keyE b↔a=b:=⟨kUj,fun h=>by rw[h]⟩
theorem jZt {D:DD} {e:Nat×Nat}:valT (kvD D) (keyE e)=(getE e D).map encE:=by
 unfold valT getE kvD
 rw[List.find?_map,show ((fun kv:L2.TKey×T=>decide (kv.1=keyE e))∘fun p:(Nat×Nat)×(Nat×Nat)=>(keyE p.1,encE p.2))=fun p=>decide (p.1=e) from funext fun p=>decide_eq_decide.mpr kUk,Option.map_map,Option.map_map]
 rfl
theorem kJa {D:DD} {k v:Nat×Nat}:putT (kvD D) (keyE k) (encE v)=kvD (putE D k v):=by
 unfold putT putE kvD
 rw[List.any_map,show ((fun kv:L2.TKey×T=>decide (kv.1=keyE k))∘fun p:(Nat×Nat)×(Nat×Nat)=>(keyE p.1,encE p.2))=fun p=>decide (p.1=k) from funext fun p=>decide_eq_decide.mpr kUk]
 split
 ·rw[List.map_map,List.map_map]
  refine List.map_congr_left fun p _=> ?_
  show (if keyE p.1=keyE k then (keyE p.1,encE v) else (keyE p.1,encE p.2))=(fun p:(Nat×Nat)×(Nat×Nat)=>(keyE p.1,encE p.2)) (if p.1=k then (p.1,v) else p)
  by_cases h:p.1=k
  ·rw[if_pos (by rw[h]),if_pos h]
  ·rw[if_neg (fun z=>h (kUj z)),if_neg h]
 ·rw[List.map_append];rfl
def SmD (D:DD):Prop:=∀p,p∈D->p.1.1<12/\p.1.2<12
theorem SmD.small {D:DD} (h:SmD D):∀x,x∈kvD D->kKu x.1:=by
 intro x hx
 obtain⟨p,hp,rfl⟩:=List.mem_map.mp hx
 exact⟨p.1.1,p.1.2,(h p hp).1,(h p hp).2,rfl⟩
theorem qQ2 {D:DD}:(kvD D).length=D.length:=by simp[kvD]
def DctAt (G:Gp) (p:Addr) (D:DD):Prop:=G p=some (.dct (kvD D))\/G p=some (.fdc (kvD D))
noncomputable def kK2:Sp3:=fun xs G Q=>∃(p:Addr) (D:DD) (a b:Nat×Nat),xs=[.ref p,encE a,encE b]/\DctAt G p D/\SmD D/\D.length<=1000/\∀q G',G q=none->G' q=some (.dct (kvD (tieE D a b)))->Sub G G'->Q (.ref q) G'
def N_tied:List Str:=["leads","start","end","further"]
noncomputable def kQa:TS3:=
 (tSeq (tAsg (tCB kXo (jJc (tVar 0) tNil)) (jJg 3))
 (tSeq (tAsg (tVar 2) (gSub (tVar 3) (tVar 1) jY9))
 (tSeq (tAsg (tVar 1) (gSub (tVar 3) (tVar 2) jY9))
 (tRet (tVar 3)))))
theorem kXi:RdOk kK2 kQa N_tied:=by
 intro xs G Q h_;apply xe4 h_;clear h_;intro p D a b h_;apply ae4 h_;clear h_;intro hp hk hl kk
 show kQa _ [some (.ref p),some (encE a),some (encE b),none] G
 have hs:=sz
 have hl2:=qQ2 (D:=D)
 wp_walk using 1,kQa,kXo
 refine⟨kvD D,hp,hk.small,fun q hq=> ?_⟩
 have h1:=qJa (kvD D) (keyE a) (encE b)
 wp_walk using 1,tSeq
 refine⟨_,kQz jJd (ks:=keyE a) rfl (by omega),?_⟩
 wp_walk using 1,tSeq
 refine⟨_,kQz jJd (ks:=keyE b) rfl (by omega),?_⟩
 wp_walk using 1,tSeq
 exact kk q _ hq (by rw[jJd,kJa,kJa];rfl) (.new hq)
def rowD (d:Nat) (D:DD) (k:Nat):List (Nat×Nat):=(List.range d).map fun i=>(getE (k,i) D).getD (0,0)
noncomputable def jQ4:Sp3:=fun xs G Q=>∃(c p:Addr) (r d:Nat) (D:DD),xs=[.ref c,.ref p]/\G c=some (.lst (jJ7 (List.replicate r d)))/\G p=some (.dct (kvD D))/\r<=100/\d<=100/\(∀k i,k<r->i<d->(getE (k,i) D).isSome=true)/\∀G',Sub G G'->Q (encW (webD r d D)) G'
def kVx:List Str:=["counts","leads","rooms","room","doors","door"]
noncomputable def jU7:TS3:=
 (tSeq (tAsg (tLst tNil) (jJg 2))
 (tSeq (tFor (jZb (jJc (tVar 0) tNil)) (gTup 2 (jKg (jJg 3) (jKg (jJg 4) gNil))) (jU4 (tBM "list" jK4 (tVar 2) (jJc (tCB jKs (jJc (jKm [false,false,false,false,false,true] (jKx (jJc (tVar 4) tNil)) (jJg 5) jQj (tBM "dict" qQm (tVar 1) (jJc (tTup (jJc (tVar 3) (jJc (tVar 5) tNil))) tNil))) tNil)) tNil))))
 (tRet (tCB jKs (jJc (tVar 2) tNil)))))
theorem jZ6:RdOk jQ4 jU7 kVx:=by
 intro xs G Q h_;apply xe5 h_;clear h_;intro c p r d D h_;apply ae6 h_;clear h_;intro hc hp hr hd hall kk
 show jU7 _ [some (.ref c),some (.ref p),none,none,none,none] G
 have hs:=sz
 wp_walk using 1,jU7,jJ6,jZb
 refine⟨Nat.zero_le _,fun q hq=> ?_⟩
 have hpq:=jJh hp hq
 have hcq:=jJh hc hq
 have ls:∀G',Sub G G'->jKw G' (.ref c)=some (jJ7 (List.replicate r d)):=fun G' s=>by simp only[jKw,s _ _ hc,asL]
 refine⟨_,ls _ (.new hq),?_⟩
 let J1:Nat->St3->Gp->Prop:=fun i τ G'=>∃(v3 v4:Option T),τ=[some (.ref c),some (.ref p),some (.ref q),v3,v4,none]/\G' q=some (.lst ((List.range i).map fun k=>encR (rowD d D k)))/\Sub G G'
 refine⟨J1,?_,?_,?_,?_⟩
 ·exact xi2 _ _ rfl ⟨jJd,.new hq⟩
 ·intro i τ G' hi h_;apply xe2 h_;clear h_;intro v3 v4 h_;apply ae2 h_;clear h_;intro h2 h3
  exact ls _ h3
 ·intro i y τ G1 hy h_;apply xe2 h_;clear h_;intro v3 v4 h_;apply ae2 h_;clear h_;intro h2 h3
  obtain⟨z,hz,rfl⟩:=kJf hy
  obtain⟨d',hd',rfl⟩:=jKr hz
  rw[List.getElem?_replicate] at hd'
  split at hd'
  rotate_left
  ·cases hd'
  rename_i hi
  cases hd'
  wp_walk using 1,jKx,jKp h2
  refine⟨by omega,by omega,?_⟩
  rw[show ((d:Nat):Int).toNat=d by omega,jVi]
  refine jJ8 (es:=List.range d) (enc:=fun k:Nat=>T.int k) (fun j=>encE ((getE (i,j) D).getD (0,0))) (by simp;omega) (fun _ _=>trivial) ?_ ?_
  ·intro j x hx G2 K K0 s2 hK
   have hxd:x<d:=by have:=List.mem_of_getElem? hx;simpa using this
   have hp2:=s2 _ _ (h3 _ _ hp)
   have ha:=hall i x hi hxd
   obtain⟨e,he⟩:=Option.isSome_iff_exists.mp ha
   wp_walk using 1,qQm
   refine⟨by simp[tyT,hp2],by omega,some (encE e),?_,?_⟩
   ·simp only[dAt,hp2]
    show (match jQp [.int (i:Nat),.int (x:Nat)] with | some ks=>some (valT (kvD D) ks) | none=>none)=_
    rw[show jQp [.int (i:Nat),.int (x:Nat)]=some (keyE (i,x)) from rfl]
    show some (valT (kvD D) (keyE (i,x)))=_
    rw[jZt,he];rfl
   ·have:=hK G2 (.refl _)
    rw[he] at this
    exact this
  ·intro E G2 hE hE2 s2
   refine⟨_,jJi hE2,?_⟩
   have hq2:=s2 _ _ h2
   wp_walk using 1,hq2
   refine⟨by simp;omega,xi2 _ _ rfl ⟨?_,(h3.trans s2).over hq⟩⟩
   rw[jJd,List.range_succ,List.map_append]
   congr 3
   show [T.tup _]=[encR (rowD d D i)]
   unfold encR rowD
   rw[List.map_map];rfl
 ·intro τ G1 h_;apply xe2 h_;clear h_;intro v3 v4 h_;apply ae2 h_;clear h_;intro h2 h3
  wp_walk using 1,tSeq
  refine⟨_,jJi h2,?_⟩
  have:=kk G1 h3
  unfold encW webD at this
  rw[List.map_map] at this
  rw[jJ1,show (jJ7 (List.replicate r d)).length=r by simp[jJ7]]
  exact this
def DsAt (G:Gp) (us:List Addr) (Ds:List DD):Prop:=us.length=Ds.length/\∀(i:Nat) (u:Addr),us[i]? =some u->∃D,Ds[i]? =some D/\G u=some (.dct (kvD D))
theorem kYl {G:Gp} {p:Addr} {D:DD} {e:Nat×Nat} (h:DctAt G p D):inR G (encE e) (.ref p)=some (getE e D).isSome:=by
 have:(valT (kvD D) (keyE e)).isSome=(getE e D).isSome:=by rw[jZt,Option.isSome_map]
 rw[<-this]
 unfold inR
 rcases h with h | h<;>(simp only[seqT,h,asL,dAt];rfl)
theorem qQy:∀(D:DD) (m:Nat),jYk (m:Int) (D.map fun x=>((x.1.1:Nat):Int))=((D.foldl (fun m p=>if p.1.1>m then p.1.1 else m) m:Nat):Int)
 | [],m=>rfl
 | x::D,m=>by
  rw[List.map_cons,jYk,List.foldl_cons]
  by_cases h:x.1.1>m
  ·rw[if_pos h,if_pos (by omega)];exact qQy D _
  ·rw[if_neg h,if_neg (by omega)];exact qQy D m
theorem DsAt.sub {G G':Gp} {us:List Addr} {Ds:List DD} (h:DsAt G us Ds) (s:∀u,u∈us->∀o,G u=some o->G' u=some o):DsAt G' us Ds:=⟨h.1,fun i u hu=>let ⟨D,h1,h2⟩:=h.2 i u hu;⟨D,h1,s u (List.mem_of_getElem? hu) _ h2⟩⟩
theorem DsAt.mem {G:Gp} {us:List Addr} {Ds:List DD} (h:DsAt G us Ds) {u:Addr} (hu:u∈us):∃o,G u=some o:=by
 obtain⟨i,hi⟩:=List.getElem?_of_mem hu
 obtain⟨D,_,h2⟩:=h.2 i u hi
 exact⟨_,h2⟩
theorem DsAt.snoc {G:Gp} {us:List Addr} {Ds:List DD} (h:DsAt G us Ds) {q:Addr} {D:DD} (hq:G q=some (.dct (kvD D))):DsAt G (us++[q]) (Ds++[D]):=by
 refine⟨by simp[h.1],fun i u hu=> ?_⟩
 by_cases hi:i<us.length
 ·rw[List.getElem?_append_left hi] at hu
  rw[List.getElem?_append_left (by rw[<-h.1];exact hi)]
  exact h.2 i u hu
 ·rw[List.getElem?_append_right (by omega)] at hu
  rw[List.getElem?_append_right (by rw[<-h.1];omega),<-h.1]
  match hk:i-us.length,hu with
  | 0,hu=>cases hu;exact⟨D,rfl,hq⟩
theorem kJ5 {p q:Addr} {G G':Gp} {o:GO} (k:Keep p G G') (hp:G' p=some o) (hq:G' q=none):G q=none:=by
 cases h:G q with
 | none=>rfl
 | some u=>
  have:q≠p:=fun e=>by rw[e,hp] at hq;cases hq
  rw[k q u this h] at hq;cases hq
theorem kVf {us:List Addr} {q:Addr} (h:us.Nodup) (hq:q∉us):(us++[q]).Nodup:=by
 rw[List.nodup_append]
 exact⟨h,by simp,fun a ha b hb=>by rw[List.mem_singleton] at hb;subst hb;rintro rfl;exact hq ha⟩
noncomputable def jUv:Sp3:=fun xs G Q=>∃(p:Addr) (D:DD) (e:Nat×Nat) (r d:Nat),xs=[.ref p,encE e,.int r,.int d]/\G p=some (.dct (kvD D))/\SmD D/\D.length<=20/\r<=9/\d<=9/\e.1<=9/\∀q us G',G q=none->G' q=some (.lst (us.map T.ref))->DsAt G' us (jQk D e r d)->(∀u,u∈us->u=p\/G u=none)->us.Nodup->q∉us->Keep p G G'->Q (.ref q) G'
def kZj:List Str:=["begun","end","rooms","doors","least_new","told","room","door","other"]
noncomputable def jV2:TS3:=
 (tSeq (tIfS (jJ9 (tOp qQl (tVar 1) (tVar 0))) (tRet (tLst (jJc (tVar 0) tNil))) jQr)
 (tSeq (tAsg (tOp jQg (tCB qQj (jJc (tOp jQg (tLst (jJc (tC (.int 0)) tNil)) (jKm [false,false,false,false,false,false,false,false,true] (iFd (tVar 0)) (jJg 8) jQj (tOp rIxF (tVar 8) (tC (.int 0))))) tNil)) (tC (.int 1))) (jJg 4))
 (tSeq (tAsg (tLst tNil) (jJg 5))
 (tSeq (tFor (kQj (jJc (tOp rIxF (tVar 1) (tC (.int 0))) (jJc (tCB qQi (jJc (tOp jQg (tVar 4) (tC (.int 1))) (jJc (tVar 2) tNil))) tNil))) (jJg 6) (tFor (jKx (jJc (tVar 3) tNil)) (jJg 7) (tSeq (tAsg (tTup (jJc (tVar 6) (jJc (tVar 7) tNil))) (jJg 8))
 (tIfS (jJ9 (tOp jK9 (tVar 8) (tVar 0))) (jU4 (tBM "list" jK4 (tVar 5) (jJc (jKd kK2 (jJc (tVar 0) (jJc (tVar 1) (jJc (tVar 8) tNil)))) tNil))) jQr))))
 (tRet (tVar 5))))))
theorem kJy:RdOk jUv jV2 kZj:=by
 intro xs G Q h_;apply xe5 h_;clear h_;intro p D e r d h_;apply ae7 h_;clear h_;intro hp hk hl hr hd he kk
 show jV2 _ [some (.ref p),some (encE e),some (.int r),some (.int d),none,none,none,none,none] G
 have hs:=sz
 wp_walk using 1,jV2,jJ6,iFd,jKx,kQj,qQj,qQi
 refine⟨_,kYl (.inl hp),_,rfl,?_⟩
 by_cases h0:(getE e D).isSome=true
 ·rw[if_pos h0]
  refine⟨by omega,fun q hq=> ?_⟩
  have hpq:=jJh hp hq
  have ht:jQk D e r d=[D]:=by rw[jQk,if_pos h0]
  refine kk q [p] _ hq jJd ⟨by rw[ht];rfl,fun i u hu=> ?_⟩ (fun u hu=> .inl (List.mem_singleton.mp hu)) (by simp) (fun z=>hpq (List.mem_singleton.mp z).symm) (.new hq)
  rw[ht]
  match i,hu with
  | 0,hu=>cases hu;exact⟨D,rfl,by rw[jJm hpq];exact hp⟩
 rw[if_neg h0]
 refine⟨by omega,fun z hz=> ?_⟩
 have hpz:=jJh hp hz
 refine⟨kvD D,by rw[jJm hpz];exact hp,D.map (fun x=>[T.int (x.1.1:Nat),T.int (x.1.2:Nat)]),?_,?_⟩
 ·unfold kvD
  rw[List.map_map,List.map_map];rfl
 rw[List.map_map]
 have kf:Keep p G (gup (gup G z (.lst [.int 0])) p (.fdc (kvD D))):=Keep.trans (.new hz) .gup
 have pf:gup (gup G z (.lst [.int 0])) p (.fdc (kvD D)) p=some (.fdc (kvD D)):=jJd
 have zf:gup (gup G z (.lst [.int 0])) p (.fdc (kvD D)) z=some (.lst [.int 0]):=by rw[jJm hpz.symm,jJd]
 generalize gup (gup G z (.lst [.int 0])) p (.fdc (kvD D))=Gf at kf pf zf
 refine jJ8 (es:=D) (enc:=fun x:(Nat×Nat)×(Nat×Nat)=>T.tup [T.int (x.1.1:Nat),T.int (x.1.2:Nat)]) (fun x=>T.int (x.1.1:Nat)) (by omega) (fun _ _=>trivial) ?_ ?_
 ·intro i x hx G2 K K0 s2 hK
  wp_walk using 1,tSeq
  exact hK G2 (.refl _)
 intro L G2 hL hL2 s2
 refine⟨_,jXz (s2 _ _ zf) hL2 (by simp;omega),?_⟩
 intro M hM
 refine⟨M,rfl,0,D.map (fun x=>((x.1.1:Nat):Int)),by rw[jJd];simp[List.map_map,Function.comp_def],by omega,fun t ht=> ?_⟩
 have htM:=(jKb ht).1
 have ht2:=(jKb ht).2
 have s3:Sub Gf (gup (gup G2 M (.lst ([T.int 0]++D.map fun x=>T.int (x.1.1:Nat)))) t (.lst [])):=(s2.trans (.new hM)).trans (.new ht)
 have tf:gup (gup G2 M (.lst ([T.int 0]++D.map fun x=>T.int (x.1.1:Nat)))) t (.lst []) t=some (.lst []):=jJd
 generalize gup (gup G2 M (.lst ([T.int 0]++D.map fun x=>T.int (x.1.1:Nat)))) t (.lst [])=G3 at s3 tf
 have hGt:G t=none:=kJ5 (kf.trans (.sub s2)) (s2 _ _ pf) ht2
 have k3:Keep p G G3:=kf.trans (.sub s3)
 have p3:=s3 _ _ pf
 have hmx:jYk 0 (D.map fun x=>((x.1.1:Nat):Int))=((mxE D:Nat):Int):=qQy D 0
 rw[hmx]
 generalize hm:mxE D=m
 refine⟨.int (e.1:Nat),rfl,_,rfl,by omega,by omega,by split<;>omega,by split<;>omega,?_⟩
 rw[show ((if ((r:Nat):Int)<(m:Int)+1+1 then ((r:Nat):Int) else (m:Int)+1+1)-((e.1:Nat):Int)).toNat=min (m+2) r-e.1 by split<;>omega,jX8]
 generalize hc:min (m+2) r-e.1=c
 have hcr:c<=9:=by omega
 let F2:Nat->Nat->Option DD:=fun k i=>if (getE (e.1+k,i) D).isSome=true then none else some (tieE D e (e.1+k,i))
 let F:Nat->List DD:=fun k=>(List.range d).filterMap (F2 k)
 have hT:jQk D e r d=(List.range c).flatMap F:=by rw[jQk,if_neg h0,hm,hc]
 let J1:Nat->St3->Gp->Prop:=fun a τ G'=>∃(v6 v7 v8:Option T) (us:List Addr),τ=[some (.ref p),some (encE e),some (.int r),some (.int d),some (.int ((m:Int)+1)),some (.ref t),v6,v7,v8]/\G' t=some (.lst (us.map T.ref))/\DsAt G' us ((List.range a).flatMap F)/\(∀u,u∈us->G u=none)/\us.Nodup/\t∉us/\us.length<=9*a/\Keep p G G'/\G' p=some (.fdc (kvD D))
 refine⟨J1,?_,?_,?_,?_⟩
 ·exact⟨none,none,none,[],rfl,tf,⟨rfl,fun i u hu=>by simp at hu⟩,fun u hu=>by simp at hu,List.nodup_nil,by simp,by simp,k3,p3⟩
 ·intros;trivial
 ·intro a y τ G4 hy h_;apply xe4 h_;clear h_;intro v6 v7 v8 us h_;apply ae8 h_;clear h_;intro h1 h2 h3 h4 h5 h6 h7 h8
  obtain⟨k',hk',rfl⟩:=jKr hy
  obtain⟨ha,rfl⟩:a<c/\a=k':=by
   have:=List.getElem?_eq_some_iff.mp hk'
   obtain⟨q1,q2⟩:=this
   rw[List.getElem_range] at q2
   rw[List.length_range] at q1
   exact⟨q1,q2⟩
  wp_walk using 1,jJ6,jKx
  refine⟨by omega,by omega,?_⟩
  rw[show ((d:Nat):Int).toNat=d by omega]
  let J2:Nat->St3->Gp->Prop:=fun b τ G'=>∃(v7 v8:Option T) (us:List Addr),τ=[some (.ref p),some (encE e),some (.int r),some (.int d),some (.int ((m:Int)+1)),some (.ref t),some (.int ((e.1+a:Nat):Int)),v7,v8]/\G' t=some (.lst (us.map T.ref))/\DsAt G' us ((List.range a).flatMap F++(List.range b).filterMap (F2 a))/\(∀u,u∈us->G u=none)/\us.Nodup/\t∉us/\us.length<=9*a+b/\Keep p G G'/\G' p=some (.fdc (kvD D))
  refine⟨J2,?_,?_,?_,?_⟩
  ·exact⟨_,_,us,rfl,h1,by simpa using h2,h3,h4,h5,by omega,h7,h8⟩
  ·intros;trivial
  ·intro b x τ G5 hx h_;apply xe3 h_;clear h_;intro v7 v8 us h_;apply ae8 h_;clear h_;intro i1 i2 i3 i4 i5 i6 i7 i8
   obtain⟨hb,rfl⟩:=jQv hx
   wp_walk using 1,jK9
   refine⟨by omega,_,kYl (e:=(e.1+a,b)) (.inr i8),?_⟩
   have hrs:List.range (b+1)=List.range b++[b]:=List.range_succ
   by_cases hg:(getE (e.1+a,b) D).isSome=true
   ·rw[if_neg (by rw[hg];decide)]
    have:F2 a b=none:=if_pos hg
    exact⟨_,_,us,rfl,i1,by rw[hrs,List.filterMap_append];simpa[this] using i2,i3,i4,i5,by omega,i7,i8⟩
   ·have hF:F2 a b=some (tieE D e (e.1+a,b)):=if_neg hg
    rw[if_pos (by simpa using hg)]
    refine⟨of_eq_true (jKp i1),p,D,e,(e.1+a,b),rfl,.inr i8,hk,by omega,fun q G6 hq hq6 s6=> ?_⟩
    have hqt:t≠q:=jJh i1 hq
    have hqu:q∉us:=fun z=>by obtain⟨o,ho⟩:=i2.mem z;rw[hq] at ho;cases ho
    have t6:=s6 _ _ i1
    wp_walk using 1,jKp t6,t6
    refine⟨by rw[List.length_map];omega,_,_,us++[q],rfl,by rw[jJd,List.map_append];rfl,?_,?_,kVf i4 hqu,?_,by rw[List.length_append,List.length_singleton];omega,?_,?_⟩
    ·rw[hrs,List.filterMap_append,<-List.append_assoc]
     have hsn:=(i2.sub fun u hu o h=>s6 u o h).snoc hq6
     simp only[List.filterMap_cons,hF,List.filterMap_nil]
     refine hsn.sub fun u hu o h=> ?_
     rw[jJm]
     ·exact h
     ·rintro rfl
      rcases (List.mem_append.mp hu) with z | z
      ·exact i5 z
      ·exact hqt (List.mem_singleton.mp z)
    ·intro u hu
     rcases (List.mem_append.mp hu) with z | z
     ·exact i3 u z
     ·rw[List.mem_singleton.mp z];exact kJ5 i7 i8 hq
    ·intro z
     rcases (List.mem_append.mp z) with z | z
     ·exact i5 z
     ·exact hqt (List.mem_singleton.mp z)
    ·intro x o hx ho
     rw[jJm (fun z=>by rw[z,hGt] at ho;cases ho)]
     exact s6 _ _ (i7 x o hx ho)
    ·rw[jJm (fun z=>by rw[z] at hp;rw[hGt] at hp;cases hp)]
     exact s6 _ _ i8
  ·intro τ G5 h_;apply xe3 h_;clear h_;intro v7 v8 us h_;apply ae8 h_;clear h_;intro i1 i2 i3 i4 i5 i6 i7 i8
   rw[jVj] at i2 i6
   refine⟨_,_,_,us,rfl,i1,?_,i3,i4,i5,by omega,i7,i8⟩
   rw[List.range_succ,List.flatMap_append]
   simpa using i2
 ·intro τ G4 h_;apply xe4 h_;clear h_;intro v6 v7 v8 us h_;apply ae8 h_;clear h_;intro h1 h2 h3 h4 h5 h6 h7 h8
  wp_walk using 1,tSeq
  rw[List.length_map,List.length_range] at h2
  exact kk t us G4 hGt h1 (by rw[hT];exact h2) (fun u hu=> .inr (h3 u hu)) h4 h5 h7
theorem symB_iff {W:Web}:symB W=true↔Sym W:=by
 unfold symB
 rw[List.all_eq_true]
 constructor
 ·intro h r i s j he
  obtain⟨es,h1,h2⟩:=jYs he
  have:=h r (List.mem_range.mpr (qJ5 he))
  rw[List.all_eq_true] at this
  have:=this i (List.mem_range.mpr (by rw[jX7 h1];exact (List.getElem?_eq_some_iff.mp h2).1))
  rw[he] at this
  exact of_decide_eq_true this
 ·intro h r hr
  rw[List.all_eq_true]
  intro i hi
  cases he:en W r i with
  | none=>rfl
  | some e=>exact decide_eq_true (h r i e.1 e.2 he)
theorem qJv {W:Web}:IsW W↔isWB W=true:=by
 unfold isWB IsW
 rw[Bool.and_eq_true,Bool.and_eq_true,decide_eq_true_eq,decide_eq_true_eq,symB_iff]
theorem jZr {r d:Nat} {D:DD}:(webD r d D).length=r:=by simp[webD]
theorem kZo {r d:Nat} {D:DD} {k:Nat} {es:List (Nat×Nat)} (h:(webD r d D)[k]? =some es):es.length=d:=by
 unfold webD at h
 rw[List.getElem?_map] at h
 cases hk:(List.range r)[k]? with
 | none=>(rw[hk] at h;cases h)
 | some x=>rw[hk] at h;cases h;simp
theorem kKz {r d:Nat} {D:DD} (hr:r<=1000) (hd:d<=1000):Sz (webD r d D):=⟨by rw[jZr];exact hr,fun k es h=>by rw[kZo h];exact hd⟩
structure Chk (r d:Nat):Prop where
 r1:1<=r
 r9:r<=9
 d6:d<=6
 rd:r*d<=9
 eq:evP r d=evL r d
 ris:risB (evL r d)=true
 lev:∀k j,k<r->j<=d->okL (rowL r d k (allL r d k) j)=true
 all:∀D,D∈allL r d r->∀k i,k<r->i<d->(getE (k,i) D).isSome=true
 prs:∀p,p∈prs 9 (allE r d)->p.length<=20/\(∀k i,k<r->i<d->(getE (k,i) (jUf p)).isSome=true)/\Sym (webD r d (jUf p))
theorem kUc {r d k i:Nat} (hk:k<r) (hi:i<d):(k,i)∈allE r d:=List.mem_flatMap.mpr ⟨k,List.mem_range.mpr hk,List.mem_map.mpr ⟨i,List.mem_range.mpr hi,rfl⟩⟩
theorem chk_is {r d:Nat} (h1:1<=r) (h2:r<=9) (h3:d<=6) (h4:r*d<=9) (h:chkS r d=true):Chk r d:=by
 unfold chkS at h
 simp only[Bool.and_eq_true,decide_eq_true_eq,List.all_eq_true] at h
 obtain⟨a,b,c,e,f⟩:=h
 exact⟨h1,h2,h3,h4,a,b,fun k j hk hj=>c k (List.mem_range.mpr hk) j (List.mem_range.mpr (by omega)),fun D hD k i hk hi=>e D hD _ (kUc hk hi),fun p hp=>⟨(f p hp).1,fun k i hk hi=>(f p hp).2.1 _ (kUc hk hi),symB_iff.mp (f p hp).2.2⟩⟩
theorem kQ9 {l:List DD} (h:okL l=true):l.length<=5000/\∀D,D∈l->D.length<=20/\SmD D:=by
 unfold okL at h
 simp only[Bool.and_eq_true,decide_eq_true_eq,List.all_eq_true] at h
 exact⟨h.1,fun D hD=>⟨(h.2 D hD).1,fun p hp=>(h.2 D hD).2 p hp⟩⟩
theorem DsAt.app {G:Gp} {us vs:List Addr} {Ds Es:List DD} (h:DsAt G us Ds) (h':DsAt G vs Es):DsAt G (us++vs) (Ds++Es):=by
 refine⟨by simp[h.1,h'.1],fun i u hu=> ?_⟩
 by_cases hi:i<us.length
 ·rw[List.getElem?_append_left hi] at hu
  rw[List.getElem?_append_left (by rw[<-h.1];exact hi)]
  exact h.2 i u hu
 ·rw[List.getElem?_append_right (by omega)] at hu
  rw[List.getElem?_append_right (by rw[<-h.1];omega),<-h.1]
  exact h'.2 _ u hu
structure Bg (G G':Gp) (b:Addr) (us:List Addr) (Ds:List DD):Prop where
 at_:G' b=some (.lst (us.map T.ref))
 ds:DsAt G' us Ds
 nd:us.Nodup
 nb:b∉us
 new:∀u,u∈us->G u=none
 sub:Sub G G'
theorem kU4 {α β γ:Type} {f:α->γ} {us:List α} {Ds:List β} (h:us.length=Ds.length):(us.zip Ds).map (fun z=>f z.1)=us.map f:=by
 have:=congrArg (List.map f) (List.map_fst_zip (l₁:=us) (l₂:=Ds) (by omega))
 rwa [List.map_map] at this
theorem zip_2 {α β γ:Type} {f:β->γ} {us:List α} {Ds:List β} (h:us.length=Ds.length):(us.zip Ds).map (fun z=>f z.2)=Ds.map f:=by
 have:=congrArg (List.map f) (List.map_snd_zip (l₁:=us) (l₂:=Ds) (by omega))
 rwa [List.map_map] at this
def jQl:Sp3:=fun xs G Q=>∃r d:Nat,xs=[.int r,.int d]/\Chk r d/\∀q G',G q=none->G' q=some (.lst ((evP r d).map encW))->Sub G G'->Q (.ref q) G'
def jY2:List Str:=["rooms","doors","begun","room","door","further","leads","webs","web"]
noncomputable def jXe:TS3:=
 (tSeq (tAsg (tLst (jJc jZy tNil)) (jJg 2))
 (tSeq (tFor (jKx (jJc (tVar 0) tNil)) (jJg 3) (tFor (jKx (jJc (tVar 1) tNil)) (jJg 4) (tSeq (tAsg (tLst tNil) (jJg 5))
 (tSeq (tFor (iSeq (tVar 2)) (jJg 6) (jU4 (tBM "list" jV6 (tVar 5) (jJc (jKd jUv (jJc (tVar 6) (jJc (tTup (jJc (tVar 3) (jJc (tVar 4) tNil))) (jJc (tVar 0) (jJc (tVar 1) tNil))))) tNil))))
 (tAsg (tVar 5) (jJg 2))))))
 (tSeq (tAsg (jKm [false,false,false,false,false,false,true,false,false] (iSeq (tVar 2)) (jJg 6) jQj (jKd jQ4 (jJc (tOp jV5 (tLst (jJc (tVar 1) tNil)) (tVar 0)) (jJc (tVar 6) tNil)))) (jJg 7))
 (tRet (jKm [false,false,false,false,false,false,false,false,true] (iSeq (tVar 7)) (jJg 8) (jJ9 (jKd jVh (jJc (tVar 8) tNil))) (tVar 8))))))
noncomputable def kXk:TS3:=(tSeq (tAsg (jKm [false,false,false,false,false,false,true,false,false] (iSeq (tVar 2)) (jJg 6) jQj (jKd jQ4 (jJc (tOp jV5 (tLst (jJc (tVar 1) tNil)) (tVar 0)) (jJc (tVar 6) tNil)))) (jJg 7))
 (tRet (jKm [false,false,false,false,false,false,false,false,true] (iSeq (tVar 7)) (jJg 8) (jJ9 (jKd jVh (jJc (tVar 8) tNil))) (tVar 8))))
theorem kZ5:jXe=tSeq (tAsg (tLst (jJc jZy tNil)) (jJg 2)) (tSeq (tFor (jKx (jJc (tVar 0) tNil)) (jJg 3) (tFor (jKx (jJc (tVar 1) tNil)) (jJg 4) (tSeq (tAsg (tLst tNil) (jJg 5))
 (tSeq (tFor (iSeq (tVar 2)) (jJg 6) (jU4 (tBM "list" jV6 (tVar 5) (jJc (jKd jUv (jJc (tVar 6) (jJc (tTup (jJc (tVar 3) (jJc (tVar 4) tNil))) (jJc (tVar 0) (jJc (tVar 1) tNil))))) tNil))))
 (tAsg (tVar 5) (jJg 2)))))) kXk):=rfl
theorem ev2_ok {D':Ends3} {G0 G:Gp} {b:Addr} {us:List Addr} {r d:Nat} {v3 v4 v5 v6:Option T} (c:Chk r d) (g:Bg G0 G b us (allL r d r)) (kk:∀q G',G q=none->G' q=some (.lst ((evP r d).map encW))->Sub G0 G'->D'.rt (.ref q) G'):
  kXk D' [some (.int r),some (.int d),some (.ref b),v3,v4,v5,v6,none,none] G:=by
 have hs:=sz
 have hr:=c.r9
 have hr1:=c.r1
 have hd:=c.d6
 have hl:(allL r d r).length<=5000:=by
  obtain⟨k,rfl⟩:∃k,r=k+1:=⟨r-1,by omega⟩
  exact (kQ9 (c.lev k d (by omega) (Nat.le_refl _))).1
 have hul:=g.ds.1
 wp_walk using 1,kXk,iSeq
 refine⟨_,jJi g.at_,?_⟩
 rw[<-kU4 (f:=T.ref) hul]
 refine jJ8 (es:=us.zip (allL r d r)) (enc:=fun z=>T.ref z.1) (fun z=>encW (webD r d z.2)) (by rw[List.length_zip];omega) (fun G' s=>by rw[kU4 (f:=T.ref) hul];exact jJi (s _ _ g.at_)) ?_ ?_
 ·intro i z hz G2 K K0 s2 hK
  obtain⟨u,D⟩:=z
  have hz2:=List.getElem?_zip_eq_some.mp hz
  obtain⟨D2,hD2,hG2⟩:=g.ds.2 i u hz2.1
  rw[hz2.2] at hD2;cases hD2
  wp_walk using 1,tSeq
  refine⟨by omega,fun p hp=> ?_⟩
  have e1:mulR (gup G2 p (.lst [.int d])) (.ref p) (.int r)=some (.newL (jJ7 (List.replicate r d))):=by
   have e2:(List.replicate ((r:Nat):Int).toNat [T.int (d:Nat)]).flatten=jJ7 (List.replicate r d):=by
    rw[show ((r:Nat):Int).toNat=r by omega]
    unfold jJ7
    rw[List.map_replicate]
    simp
   simp only[mulR,jJd];rw[if_pos,e2];refine⟨?_,?_,?_⟩<;>simp<;>omega
  refine⟨_,e1,?_⟩
  intro q hq
  have hup:u≠p:=jJh (s2 _ _ hG2) hp
  have huq:u≠q:=fun e=>by rw[e] at hup;have:=(jKb hq).2;rw[<-e,s2 _ _ hG2] at this;cases this
  refine⟨q,u,r,d,D,rfl,jJd,by rw[jJm huq,jJm hup];exact s2 _ _ hG2,by omega,by omega,c.all D (List.mem_of_getElem? hz2.2),fun G3 s3=>hK G3 (((Sub.new hp).trans (.new hq)).trans s3)⟩
 ·intro q G2 hq hq2 s2
  refine⟨_,jJi hq2,?_⟩
  rw[show (us.zip (allL r d r)).map (fun z=>encW (webD r d z.2))=((allL r d r).map (webD r d)).map encW by rw[List.map_map];exact zip_2 (f:=fun D=>encW (webD r d D)) hul] at hq2 ⊢
  refine jXx (es:=(allL r d r).map (webD r d)) (enc:=encW) (fun W=>if isWB W=true then some (encW W) else none) (by simp;omega) (fun G' s=>jJi (s _ _ hq2)) ?_ ?_
  ·intro i W hW G3 K K0 s3 hK hK0
   obtain⟨D,_,rfl⟩:=List.mem_map.mp (List.mem_of_getElem? hW)
   wp_walk using 1,tSeq
   refine⟨_,rfl,kKz (by omega) (by omega),fun G4 x hx s4=>⟨x,rfl,?_⟩⟩
   have hxe:x=isWB (webD r d D):=by
    rw[qJv] at hx
    exact Bool.eq_iff_iff.mpr hx
   by_cases h:isWB (webD r d D)=true
   ·rw[hxe,if_pos h];exact hK _ _ (by rw[if_pos h]) s4
   ·rw[hxe,if_neg h];exact hK0 (by rw[if_neg h]) _ s4
  ·intro E G3 hE hE3 s3
   refine kk E G3 (s2.none hE) ?_ ((g.sub.trans s2).trans s3)
   rw[hE3,evP]
   congr 2
   generalize (allL r d r).map (webD r d)=l
   induction l with
   | nil=>rfl
   | cons a l ih=>
    rw[List.filterMap_cons,List.filter_cons]
    by_cases h:isWB a=true
    ·rw[if_pos h,if_pos h,List.map_cons,ih]
    ·rw[if_neg h,if_neg h,ih]
theorem jY8:RdOk jQl jXe jY2:=by
 intro xs G Q h_;apply xe2 h_;clear h_;intro r d h_;apply ae2 h_;clear h_;intro c kk
 rw[show jKu jY2 [.int r,.int d]=[some (.int r),some (.int d),none,none,none,none,none,none,none] from rfl,kZ5]
 have hs:=sz
 have hr:=c.r9
 have hr1:=c.r1
 have hd:=c.d6
 wp_walk using 1,jJ6,jKx,jZy
 refine .inl fun z hz=> ?_
 refine⟨by omega,fun b0 hb0=>⟨by omega,by omega,?_⟩⟩
 rw[show ((r:Nat):Int).toNat=r by omega]
 have hzb:=(jKb hb0).1
 have g0:Bg G (gup (gup G z (.dct [])) b0 (.lst [.ref z])) b0 [z] (allL r d 0):=by
  refine⟨jJd,⟨rfl,fun i u hu=> ?_⟩,by simp,by simpa using hzb,fun u hu=>by rw[List.mem_singleton.mp hu];exact hz,(Sub.new hz).trans (.new hb0)⟩
  match i,hu with
  | 0,hu=>cases hu;exact⟨[],rfl,by rw[jJm hzb.symm,jJd];rfl⟩
 generalize gup (gup G z (.dct [])) b0 (.lst [.ref z])=G1 at g0
 let J1:Nat->St3->Gp->Prop:=fun k τ G'=>∃(v3 v4 v5 v6:Option T) (b:Addr) (us:List Addr),τ=[some (.int r),some (.int d),some (.ref b),v3,v4,v5,v6,none,none]/\Bg G G' b us (allL r d k)
 refine⟨J1,?_,?_,?_,?_⟩
 ·exact⟨none,none,none,none,b0,[z],rfl,g0⟩
 ·intros;trivial
 ·intro k y τ G2 hy h_;apply xe6 h_;clear h_;intro v3 v4 v5 v6 b us g
  obtain⟨hk,rfl⟩:=jQv hy
  wp_walk using 1,jJ6,jKx,iSeq
  refine⟨by omega,by omega,?_⟩
  rw[show ((d:Nat):Int).toNat=d by omega]
  let J2:Nat->St3->Gp->Prop:=fun j τ G'=>∃(v4 v5 v6:Option T) (b:Addr) (us:List Addr),τ=[some (.int r),some (.int d),some (.ref b),some (.int (k:Nat)),v4,v5,v6,none,none]/\Bg G G' b us (rowL r d k (allL r d k) j)
  refine⟨J2,?_,?_,?_,?_⟩
  ·exact⟨_,_,_,b,us,rfl,g⟩
  ·intros;trivial
  ·intro j x τ G3 hx h_;apply xe5 h_;clear h_;intro v4 v5 v6 b us g
   obtain⟨hj,rfl⟩:=jQv hx
   obtain⟨_,ok1⟩:=kQ9 (c.lev k j hk (by omega))
   obtain⟨ok2,_⟩:=kQ9 (c.lev k (j+1) hk (by omega))
   rw[rowL] at ok2
   generalize hDs:rowL r d k (allL r d k) j=Ds at g ok1 ok2
   wp_walk using 1,iSeq,jJ6
   refine⟨by omega,fun f hf=> ?_⟩
   have hbf:=jJh g.at_ hf
   have fus:f∉us:=fun z=>by obtain⟨o,ho⟩:=g.ds.mem z;rw[hf] at ho;cases ho
   have hGf:G f=none:=g.sub.none hf
   have hGb:∀u,u∈us->u≠b:=fun u hu e=>g.nb (e▸hu)
   refine⟨_,jJi (by rw[jJm hbf];exact g.at_),?_⟩
   let J3:Nat->St3->Gp->Prop:=fun i τ G'=>∃(v6:Option T) (ws:List Addr),τ=[some (.int r),some (.int d),some (.ref b),some (.int (k:Nat)),some (.int (j:Nat)),some (.ref f),v6,none,none]/\G' b=some (.lst (us.map T.ref))/\G' f=some (.lst (ws.map T.ref))/\DsAt G' ws ((Ds.take i).flatMap fun D=>jQk D (k,j) r d)/\ws.Nodup/\f∉ws/\b∉ws/\(∀w,w∈ws->G w=none)/\(∀(i':Nat) u D,i<=i'->us[i']? =some u->Ds[i']? =some D->G' u=some (.dct (kvD D)))/\(∀w,w∈ws->∀i',i<=i'->us[i']? ≠some w)/\Sub G G'
   refine⟨J3,?_,?_,?_,?_⟩
   ·refine⟨_,[],rfl,by rw[jJm hbf];exact g.at_,jJd,⟨rfl,fun i u hu=>by simp at hu⟩,List.nodup_nil,by simp,by simp,fun w hw=>by simp at hw,fun i' u D _ hu hD=> ?_,fun w hw=>by simp at hw,g.sub.over hGf⟩
    obtain⟨D',hD',h⟩:=g.ds.2 i' u hu
    rw[hD] at hD';cases hD'
    rw[jJm (show u≠f from fun e=>fus (e▸List.mem_of_getElem? hu))];exact h
   ·intro i τ G' hi h_;apply xe2 h_;clear h_;intro v6 ws h_;apply ae2 h_;clear h_;intro h1 _
    exact jJi h1
   ·intro i y τ G4 hy h_;apply xe2 h_;clear h_;intro v6 ws h_;apply ae10 h_;clear h_;intro h1 h2 h3 h4 h5 h6 h7 h8 h9 h10
    obtain⟨u,hu,rfl⟩:=jKr hy
    have hum:=List.mem_of_getElem? hu
    have hil:i<Ds.length:=by rw[<-g.ds.1];exact (List.getElem?_eq_some_iff.mp hu).1
    have hD:Ds[i]? =some Ds[i]:=List.getElem?_eq_getElem hil
    have hDm:Ds[i]∈Ds:=List.getElem_mem hil
    generalize Ds[i]=D at hD hDm
    have tk:(Ds.take (i+1)).flatMap (fun D=>jQk D (k,j) r d)=(Ds.take i).flatMap (fun D=>jQk D (k,j) r d)++jQk D (k,j) r d:=by rw[List.take_succ,hD,List.flatMap_append];simp
    have tl:((Ds.take (i+1)).flatMap fun D=>jQk D (k,j) r d).length<=5000:=by
     have:(Ds.flatMap fun D=>jQk D (k,j) r d)=(Ds.take (i+1)).flatMap (fun D=>jQk D (k,j) r d)++(Ds.drop (i+1)).flatMap fun D=>jQk D (k,j) r d:=by rw[<-List.flatMap_append,List.take_append_drop]
     rw[this,List.length_append] at ok2;omega
    wp_walk using 1,tSeq
    have huG:=h8 i u D (Nat.le_refl _) hu hD
    have huf:u≠f:=fun e=>fus (e▸hum)
    have hub:=hGb u hum
    refine⟨of_eq_true (jKp h2),by omega,u,D,(k,j),r,d,rfl,huG,(ok1 D hDm).2,(ok1 D hDm).1,hr,by omega,by show k<=9;omega,fun q vs G5 hq hq5 ds hv nv hqv kp=> ?_⟩
    have f5:=kp f _ huf.symm h2
    have hqf:q≠f:=(jJh h2 hq).symm
    have fv:f∉vs:=fun z=>by
     rcases hv f z with e | e
     ·exact huf e.symm
     ·rw[h2] at e;cases e
    have bv:b∉vs:=fun z=>by
     rcases hv b z with e | e
     ·exact hub e.symm
     ·rw[h1] at e;cases e
    have wu:∀w,w∈ws->w≠u:=fun w hw e=>h9 w hw i (Nat.le_refl _) (e▸hu)
    have sm:∀w,w∈ws->∃o,G4 w=some o:=fun w hw=>h3.mem hw
    have hlv:ws.length+vs.length<=5000:=by rw[h3.1,ds.1,<-List.length_append,<-tk];exact tl
    refine⟨f,q,_,_,rfl,rfl,f5,hq5,by rw[List.length_map,List.length_map];omega,?_⟩
    refine⟨_,ws++vs,rfl,by rw[jJm hbf];exact kp b _ hub.symm h1,by rw[jJd,List.map_append],?_,?_,?_,?_,?_,?_,?_,?_⟩
    ·rw[tk]
     refine ((h3.sub fun w hw o ho=>kp w o (wu w hw) ho).app ds).sub fun w hw o ho=> ?_
     rw[jJm]
     ·exact ho
     ·rintro rfl
      exact (List.mem_append.mp hw).elim h5 fv
    ·rw[List.nodup_append]
     refine⟨h4,nv,fun a ha v hv'=> ?_⟩
     rcases hv v hv' with e | e
     ·rw[e];exact wu a ha
     ·rintro rfl;obtain⟨o,ho⟩:=sm a ha;rw[e] at ho;cases ho
    ·exact fun z=>(List.mem_append.mp z).elim h5 fv
    ·exact fun z=>(List.mem_append.mp z).elim h6 bv
    ·intro w hw
     rcases (List.mem_append.mp hw) with z | z
     ·exact h7 w z
     ·rcases hv w z with e | e
      ·rw[e];exact g.new u hum
      ·exact h10.none e
    ·intro i' u' D' hi' hu' hD'
     have hne:u'≠u:=fun e=>by
      have:=(List.getElem?_inj (List.getElem?_eq_some_iff.mp hu).1 g.nd).mp (hu.trans (e▸hu'.symm))
      omega
     rw[jJm (show u'≠f from fun e=>fus (e▸List.mem_of_getElem? hu'))]
     exact kp _ _ hne (h8 i' u' D' (by omega) hu' hD')
    ·intro w hw i' hi' hu'
     rcases (List.mem_append.mp hw) with z | z
     ·exact h9 w z i' (by omega) hu'
     ·rcases hv w z with e | e
      ·rw[e] at hu'
       have:=(List.getElem?_inj (List.getElem?_eq_some_iff.mp hu).1 g.nd).mp (hu.trans hu'.symm)
       omega
      ·have hl':i'<Ds.length:=by rw[<-g.ds.1];exact (List.getElem?_eq_some_iff.mp hu').1
       rw[h8 i' w _ (by omega) hu' (List.getElem?_eq_getElem hl')] at e;cases e
    ·intro c' o hc'
     rw[jJm (fun e=>by rw[e,hGf] at hc';cases hc')]
     exact kp _ _ (fun e=>by rw[e,g.new u hum] at hc';cases hc') (h10 _ _ hc')
   ·intro τ G4 h_;apply xe2 h_;clear h_;intro v6 ws h_;apply ae10 h_;clear h_;intro h1 h2 h3 h4 h5 h6 h7 h8 h9 h10
    wp_walk using 1,tSeq
    rw[List.length_map,g.ds.1,List.take_length] at h3
    exact⟨_,_,_,f,ws,rfl,⟨h2,by rw[rowL,hDs];exact h3,h4,h5,h7,h10⟩⟩
  ·intro τ G3 h_;apply xe5 h_;clear h_;intro v4 v5 v6 b us g
   rw[jVj] at g
   exact⟨_,_,_,_,b,us,rfl,g⟩
 ·intro τ G2 h_;apply xe6 h_;clear h_;intro v3 v4 v5 v6 b us g
  rw[jVj] at g
  exact ev2_ok c g fun q G' hq hq' s=>kk q G' (g.sub.none hq) hq' s
theorem kJl {α:Type} [DecidableEq α] {f:α->T} (h:∀x y,eqT (f x) (f y)=decide (x=y)):∀xs ys:List α,eqTs (xs.map f) (ys.map f)=decide (xs=ys)
 | [],[]=>by simp[eqTs]
 | [],_::_=>by simp[eqTs]
 | _::_,[]=>by simp[eqTs]
 | x::xs,y::ys=>by
  show (eqT (f x) (f y)&&eqTs (xs.map f) (ys.map f))=_
  rw[h,kJl h xs ys]
  by_cases e:x=y
  ·subst e;by_cases e2:xs=ys<;>simp[e2]
  ·simp[e]
theorem kYu (x y:Nat):eqT (.int x) (.int y)=decide (x=y):=by
 by_cases h:x=y
 ·subst h;simp[eqT]
 ·have:¬ (x:Int)=y:=by omega
  simp[eqT,h,this]
theorem eqT_E (x y:Nat×Nat):eqT (encE x) (encE y)=decide (x=y):=by
 obtain⟨a,b⟩:=x
 obtain⟨c,d⟩:=y
 show (eqT (.int a) (.int c)&&(eqT (.int b) (.int d)&&true))=_
 rw[kYu,kYu]
 by_cases h:a=c<;>by_cases h2:b=d<;>simp[h,h2]
theorem eqT_R (x y:List (Nat×Nat)):eqT (encR x) (encR y)=decide (x=y):=kJl eqT_E x y
theorem eqT_W (x y:Web):eqT (encW x) (encW y)=decide (x=y):=kJl eqT_R x y
structure OkD (d:Nat) (x:T):Prop where
 tr:tree x=true
 lay:(td x).canLay0=true
 dep:(td x).depth<=d
theorem kX1 {i:Int}:OkD 0 (.int i):=⟨rfl,rfl,Nat.le_of_eq (by simp[td,PyData.depth])⟩
theorem kQf {d:Nat}:∀xs:List T,(∀x,x∈xs->OkD d x)->jKz xs=true/\PyData.canLayAll0 (tds xs)=true/\PyData.depthAll (tds xs)<=d
 | [],_=>⟨rfl,by simp[tds,PyData.canLayAll0],by simp[tds,PyData.depthAll]⟩
 | x::xs,h=>by
  obtain⟨a1,a2,a3⟩:=kQf xs fun y hy=>h y (List.mem_cons_of_mem _ hy)
  obtain⟨b1,b2,b3⟩:=h x (List.mem_cons_self ..)
  refine⟨?_,?_,?_⟩
  ·show (tree x&&jKz xs)=true;rw[a1,b1];rfl
  ·rw[tds,PyData.canLayAll0,a2,b2];rfl
  ·rw[tds,PyData.depthAll];omega
theorem kJe {d:Nat} {xs:List T} (h:∀x,x∈xs->OkD d x):OkD (d+1) (.tup xs):=by
 obtain⟨a1,a2,a3⟩:=kQf xs h
 exact⟨a1,by rw[td,PyData.canLay0];exact a2,by rw[td,PyData.depth];omega⟩
theorem OkD.mono {d d':Nat} {x:T} (h:OkD d x) (l:d<=d'):OkD d' x:=⟨h.tr,h.lay,Nat.le_trans h.dep l⟩
theorem kX0 {xs:List T} (h:∀x,x∈xs->OkD 40 x):jYq xs=true:=by
 obtain⟨a1,a2,a3⟩:=kQf xs h
 unfold jYq
 rw[a1,a2,decide_eq_true (show (PyData.list (tds xs)).depth<=50 by rw[PyData.depth];omega)];rfl
theorem qQu {W:Web}:OkD 3 (encW W):=by
 refine kJe fun x hx=> ?_
 obtain⟨es,_,rfl⟩:=List.mem_map.mp hx
 refine kJe fun x hx=> ?_
 obtain⟨e,_,rfl⟩:=List.mem_map.mp hx
 refine kJe fun x hx=> ?_
 simp only[List.not_mem_nil,List.mem_cons,or_false] at hx
 rcases hx with rfl | rfl<;>exact kX1
theorem qJ2 {G:Gp} {A B:Web}:eqG G (encW A) (encW B)=some (decide (A=B)):=by
 have e:∀W:Web,eqOk (encW W)=true:=by
  intro W
  have h:=qQu (W:=W)
  unfold eqOk
  rw[h.tr,h.lay,decide_eq_true (show (td (encW W)).depth<=50 by have:=h.dep;omega)];rfl
 show (if eqOk (encW A)=true/\eqOk (encW B)=true then some (eqT (encW A) (encW B)) else none)=_
 rw[if_pos ⟨e A,e B⟩,eqT_W]
theorem kKs {k d:Nat}:allE (k+1) d=allE k d++(List.range d).map fun i=>(k,i):=by
 unfold allE
 rw[List.range_succ,List.flatMap_append];simp
theorem kJs {d:Nat}:∀ {k:Nat},(allE k d).length=k*d
 | 0=>by simp[allE]
 | k+1=>by rw[kKs,List.length_append,kJs,List.length_map,List.length_range,Nat.succ_mul]
def jQ6:Sp3:=fun xs G Q=>∃r d:Nat,xs=[.int r,.int d]/\r<=9/\d<=9/\∀q G',G q=none->G' q=some (.lst ((allE r d).map encE))->Sub G G'->Q (.ref q) G'
def kKw:List Str:=["_law_wide","_law_doors","_law_found","_law_room","_law_door"]
noncomputable def jQ8:TS3:=
 (tSeq (tAsg (tLst tNil) (jJg 2))
 (tSeq (tFor (jKx (jJc (tVar 0) tNil)) (jJg 3) (jU4 (tBM "list" jV6 (tVar 2) (jJc (jKm [false,false,false,false,true] (jKx (jJc (tVar 1) tNil)) (jJg 4) jQj (tTup (jJc (tVar 3) (jJc (tVar 4) tNil)))) tNil))))
 (tRet (tVar 2))))
theorem jYa:RdOk jQ6 jQ8 kKw:=by
 intro xs G Q h_;apply xe2 h_;clear h_;intro r d h_;apply ae3 h_;clear h_;intro hr hd kk
 show jQ8 _ [some (.int r),some (.int d),none,none,none] G
 have hs:=sz
 wp_walk using 1,jQ8,jJ6,jKx
 refine⟨by omega,fun q hq=>⟨by omega,by omega,?_⟩⟩
 rw[show ((r:Nat):Int).toNat=r by omega]
 let J1:Nat->St3->Gp->Prop:=fun k τ G'=>∃(v3:Option T),τ=[some (.int r),some (.int d),some (.ref q),v3,none]/\G' q=some (.lst ((allE k d).map encE))/\Sub G G'
 refine⟨J1,?_,?_,?_,?_⟩
 ·exact xi1 _ rfl ⟨jJd,.new hq⟩
 ·intros;trivial
 ·intro k y τ G1 hy h_;apply xe1 h_;clear h_;intro v3 h_;apply ae2 h_;clear h_;intro h1 h2
  obtain⟨hk,rfl⟩:=jQv hy
  wp_walk using 1,jKx,jKp h1
  refine⟨by omega,by omega,?_⟩
  rw[show ((d:Nat):Int).toNat=d by omega,jVi]
  refine jJ8 (es:=List.range d) (enc:=fun k:Nat=>T.int k) (fun j=>encE (k,j)) (by simp;omega) (fun _ _=>trivial) ?_ ?_
  ·intro j x hx G2 K K0 s2 hK
   wp_walk using 1,tSeq
   exact⟨by omega,hK G2 (.refl _)⟩
  ·intro E G2 hE hE2 s2
   have hkd:k*d<=9*9:=Nat.mul_le_mul (by omega) hd
   refine⟨q,E,_,_,rfl,rfl,s2 _ _ h1,hE2,by rw[List.length_map,List.length_map,List.length_range,kJs];omega,?_⟩
   exact xi1 _ rfl ⟨by rw[jJd,kKs,List.map_append,List.map_map];rfl,(h2.trans s2).over hq⟩
 ·intro τ G1 h_;apply xe1 h_;clear h_;intro v3 h_;apply ae2 h_;clear h_;intro h1 h2
  rw[jVj] at h1
  wp_walk using 1,tSeq
  exact kk q G1 hq h1 h2
def encP (x:(Nat×Nat)×(Nat×Nat)):T:= .tup [encE x.1,encE x.2]
def PrAt (G:Gp) (rs:List Addr) (Ps:List DD):Prop:=rs.length=Ps.length/\∀(i:Nat) (r:Addr),rs[i]? =some r->∃P,Ps[i]? =some P/\G r=some (.lst (P.map encP))
theorem PrAt.sub {G G':Gp} {us:List Addr} {Ds:List DD} (h:PrAt G us Ds) (s:∀u,u∈us->∀o,G u=some o->G' u=some o):PrAt G' us Ds:=⟨h.1,fun i u hu=>let ⟨D,h1,h2⟩:=h.2 i u hu;⟨D,h1,s u (List.mem_of_getElem? hu) _ h2⟩⟩
theorem PrAt.app {G:Gp} {us vs:List Addr} {Ds Es:List DD} (h:PrAt G us Ds) (h':PrAt G vs Es):PrAt G (us++vs) (Ds++Es):=by
 refine⟨by simp[h.1,h'.1],fun i u hu=> ?_⟩
 by_cases hi:i<us.length
 ·rw[List.getElem?_append_left hi] at hu
  rw[List.getElem?_append_left (by rw[<-h.1];exact hi)]
  exact h.2 i u hu
 ·rw[List.getElem?_append_right (by omega)] at hu
  rw[List.getElem?_append_right (by rw[<-h.1];omega),<-h.1]
  exact h'.2 _ u hu
def fct:Nat->Nat
 | 0=>1
 | n+1=>(n+1)*fct n
theorem kYs:∀ {n:Nat},n<=9->fct n<=362880:=by decide
theorem kYr {α β:Type} {f:α->List β} {c:Nat}:∀ {l:List α},(∀a,a∈l->(f a).length<=c)->(l.flatMap f).length<=l.length*c
 | [],_=>by simp
 | a::l,h=>by
  rw[List.flatMap_cons,List.length_append,List.length_cons,Nat.succ_mul]
  have h1:=h a (List.mem_cons_self ..)
  have h2:=kYr (l:=l) fun b hb=>h b (List.mem_cons_of_mem _ hb)
  omega
theorem jV7:∀ {n:Nat} {es:List (Nat×Nat)},es.length<=n->(prs n es).length<=fct n
 | n,[],h=>by
  clear h
  have:1<=fct n:=by
   induction n with
   | zero=>exact Nat.le_refl _
   | succ n ih=>rw[fct];exact Nat.mul_le_mul (Nat.succ_le_succ (Nat.zero_le n)) ih
  rw[prs];exact this
 | n+1,f::rest,h=>by
  rw[prs,List.length_append,List.length_map,fct,Nat.succ_mul]
  have hl:rest.length<=n:=by simpa using h
  have h1:=jV7 hl
  have h2:((List.range rest.length).flatMap fun k=>(prs n (rest.take k++rest.drop (k+1))).map ((f,rest.getD k (0,0)):: ·)).length<=(List.range rest.length).length*fct n:=kYr fun k hk=>by
   rw[List.length_map]
   exact jV7 (by simp;have:=List.mem_range.mp hk;omega)
  rw[List.length_range] at h2
  have h3:rest.length*fct n<=n*fct n:=Nat.mul_le_mul_right _ hl
  omega
theorem kUz {xs:List T} {k:Nat} (h:k<=xs.length):cutT xs (some (k:Int)) none=xs.drop k:=by
 simp only[cutT,HT.sIx]
 rw[if_neg (by omega),show min ((k:Int).toNat) xs.length=k by omega]
 (rw[List.take_of_length_le (by simp)])
theorem cut_to {xs:List T} {k:Nat} (h:k<=xs.length):cutT xs none (some (k:Int))=xs.take k:=by
 simp only[cutT,HT.sIx]
 rw[if_neg (by omega),show min ((k:Int).toNat) xs.length=k by omega]
 simp
theorem okE {e:Nat×Nat}:OkD 40 (encE e):=(kJe (d:=0) fun x hx=>by
 (simp only[List.mem_cons,List.not_mem_nil,or_false] at hx)
 rcases hx with rfl | rfl<;>exact kX1).mono (by decide)
theorem kUu {G:Gp} {p q:Addr} {F:List (Nat×Nat)} (h1:G p=some (.lst (F.map encE))) (h2:G q=some (.lst [])):eqG G (.ref p) (.ref q)=some F.isEmpty:=by
 have:eqG G (.ref p) (.ref q)=if jYq (F.map encE)=true/\jYq []=true then some (eqTs (F.map encE) []) else none:=by simp only[eqG,h1,h2]
 rw[this,if_pos ⟨kX0 fun x hx=>by obtain⟨e,_,rfl⟩:=List.mem_map.mp hx;exact okE,rfl⟩]
 cases F<;>rfl
noncomputable def jU1 (n:Nat):Sp3:=fun xs G Q=>∃(p:Addr) (es:List (Nat×Nat)),xs=[.ref p]/\G p=some (.lst (es.map encE))/\es.length<=n/\n<=9/\∀q rs G',G q=none->G' q=some (.lst (rs.map T.ref))->PrAt G' rs (prs n es)->(∀r,r∈rs->G r=none)->Sub G G'->Q (.ref q) G'
section
variable (jK8:Sp3)
def jUt:List Str:=["_law_ends","_law_first","_law_rest","_law_found","_law_k","_law_other","_law_more"]
noncomputable def jJ5:TS3:=
 (tSeq (tIfS (jJ9 (tOp rEqA (tVar 0) (tLst tNil))) (tRet (tLst (jJc (tLst tNil) tNil))) jQr)
 (tSeq (tAsg (tTup (jJc (tOp rIxF (tVar 0) (tC (.int 0))) (jJc (tSl rSlF (tVar 0) (jY6 (tC (.int 1))) jUk) tNil))) (gTup 2 (jKg (jJg 1) (jKg (jJg 2) gNil))))
 (tSeq (tAsg (jKm [false,false,false,false,false,false,true] (iSeq (jKd jK8 (jJc (tVar 2) tNil))) (jJg 6) jQj (tOp jQg (tLst (jJc (tTup (jJc (tVar 1) (jJc (tVar 1) tNil))) tNil)) (tVar 6))) (jJg 3))
 (tSeq (tFor (jZb (jJc (tVar 2) tNil)) (gTup 2 (jKg (jJg 4) (jKg (jJg 5) gNil))) (jU4 (tBM "list" jV6 (tVar 3) (jJc (jKm [false,false,false,false,false,false,true] (iSeq (jKd jK8 (jJc (tOp jQg (tSl rSlF (tVar 2) jUk (jY6 (tVar 4))) (tSl rSlF (tVar 2) (jY6 (tOp jQg (tVar 4) (tC (.int 1)))) jUk)) tNil))) (jJg 6) jQj (tOp jQg (tLst (jJc (tTup (jJc (tVar 1) (jJc (tVar 5) tNil))) tNil)) (tVar 6))) tNil))))
 (tRet (tVar 3))))))
end
theorem qKp {sp:Sp3} {n:Nat} {p:Addr} {G:Gp} {Q:VK3} (hp:G p=some (.lst [])) (kk:∀q rs G',G q=none->G' q=some (.lst (rs.map T.ref))->PrAt G' rs (prs n [])->(∀r,r∈rs->G r=none)->Sub G G'->Q (.ref q) G'):jJ5 sp {nx:=fun _ G'=>Q .non G',rt:=Q} [some (.ref p),none,none,none,none,none,none] G:=by
 have hs:=sz
 wp_walk using 1,jJ5,rEqA
 refine⟨by omega,fun c hc=> ?_⟩
 have hpc:=jJh hp hc
 refine⟨true,kUu (F:=[]) (by rw[jJm hpc];exact hp) jJd,?_⟩
 rw[if_pos rfl]
 refine⟨by omega,fun a ha=>⟨by omega,fun q hq=> ?_⟩⟩
 have hqa:=(jKb hq).1
 refine kk q [a] _ ((jKb (jKb hq).2).2) jJd ⟨by rw[prs];rfl,fun i u hu=> ?_⟩ (fun r hr=>by rw[List.mem_singleton.mp hr];exact (jKb ha).2) (((Sub.new hc).trans (.new ha)).trans (.new hq))
 match i,hu with
 | 0,hu=>cases hu;exact⟨[],by rw[prs];rfl,by rw[jJm hqa.symm,jJd];rfl⟩
theorem jXl (sp:Sp3):∀xs G Q,jU1 0 xs G Q->jJ5 sp {nx:=fun _ G'=>Q .non G',rt:=Q} (jKu jUt xs) G:=by
 intro xs G Q h_;apply xe2 h_;clear h_;intro p es h_;apply ae4 h_;clear h_;intro hp hl _ kk
 cases List.length_eq_zero_iff.mp (Nat.le_zero.mp hl)
 exact qKp hp kk
theorem kQ4:∀ {n:Nat} {es:List (Nat×Nat)} {P:DD},P∈prs n es->P.length<=n
 | n,[],P,h=>by rw[prs] at h;rw[List.mem_singleton.mp h];exact Nat.zero_le _
 | 0,_::_,P,h=>by rw[prs] at h;cases h
 | n+1,f::rest,P,h=>by
  rw[prs] at h
  rcases (List.mem_append.mp h) with h | h
  ·obtain⟨P',hP,rfl⟩:=List.mem_map.mp h
   rw[List.length_cons]
   exact Nat.succ_le_succ (kQ4 hP)
  ·obtain⟨k,_,h⟩:=List.mem_flatMap.mp h
   obtain⟨P',hP,rfl⟩:=List.mem_map.mp h
   rw[List.length_cons]
   exact Nat.succ_le_succ (kQ4 hP)
theorem kUp {α:Type} {G:Gp} {rs:List Addr} {es:List α} (hl:rs.length=es.length) (h:∀(i:Nat) (r:Addr) (e:α),rs[i]? =some r->es[i]? =some e->G r=none):∀r,r∈rs->G r=none:=by
 intro r hr
 obtain⟨i,hi⟩:=List.getElem?_of_mem hr
 have hil:i<es.length:=by rw[<-hl];exact (List.getElem?_eq_some_iff.mp hi).1
 exact h i r _ hi (List.getElem?_eq_getElem hil)
theorem kQ5 {G:Gp} {x:(Nat×Nat)×(Nat×Nat)} {rs rs1:List Addr} {Ps:List DD} (h0:rs.length=Ps.length) (h1:rs1.length=(rs.zip Ps).length) (h:∀(i:Nat) (r:Addr) (z:Addr×DD),rs1[i]? =some r->(rs.zip Ps)[i]? =some z->G r=some (.lst ((x::z.2).map encP))):PrAt G rs1 (Ps.map (x:: ·)):=by
 rw[List.length_zip] at h1
 refine⟨by rw[List.length_map];omega,fun i r hr=> ?_⟩
 have hi:i<rs1.length:=(List.getElem?_eq_some_iff.mp hr).1
 have e1:Ps[i]? =some (Ps[i]'(by omega)):=List.getElem?_eq_getElem _
 have e2:rs[i]? =some (rs[i]'(by omega)):=List.getElem?_eq_getElem _
 have:=h i r (rs[i]'(by omega),Ps[i]'(by omega)) hr (List.getElem?_zip_eq_some.mpr ⟨e2,e1⟩)
 exact⟨_,by rw[List.getElem?_map,e1];rfl,this⟩
theorem jJr (n:Nat):∀xs G Q,jU1 (n+1) xs G Q->jJ5 (jU1 n) {nx:=fun _ G'=>Q .non G',rt:=Q} (jKu jUt xs) G:=by
 intro xs G Q h_;apply xe2 h_;clear h_;intro p es h_;apply ae4 h_;clear h_;intro hp hl hn kk
 cases es with
 | nil=>exact qKp hp kk
 | cons f rest=>
 show jJ5 _ _ [some (.ref p),none,none,none,none,none,none] G
 have hs:=sz
 have hrl:rest.length<=n:=by simpa using hl
 have hf:=kYs (n:=n) (by omega)
 have hf1:=kYs hn
 have pl:=jV7 hl
 wp_walk using 1,jJ5,rEqA,jJ6,iSeq,jZb,tSl,rSlF,jY6,jUk
 refine⟨by omega,fun c hc=> ?_⟩
 have hpc:=jJh hp hc
 refine⟨false,kUu (F:=f::rest) (by rw[jJm hpc];exact hp) jJd,?_⟩
 rw[if_neg (by decide)]
 have hpc':(gup G c (.lst [])) p=some (.lst ((f::rest).map encE)):=by rw[jJm hpc];exact hp
 refine⟨encE f,by rw[jVa hpc',show (0:Int)=((0:Nat):Int) from rfl,atN];rfl,.newL (rest.map encE),?_,?_⟩
 ·simp only[slR,hpc']
  rw[show (1:Int)=((1:Nat):Int) from rfl,kUz (by simp)];rfl
 intro a2 ha2
 have h2:gup (gup G c (.lst [])) a2 (.lst (rest.map encE)) a2=some (.lst (rest.map encE)):=jJd
 have s2:Sub G (gup (gup G c (.lst [])) a2 (.lst (rest.map encE))):=(Sub.new hc).trans (.new ha2)
 generalize gup (gup G c (.lst [])) a2 (.lst (rest.map encE))=G2 at h2 s2 ⊢
 refine⟨by omega,a2,rest,rfl,h2,hrl,by omega,fun q rs G3 hq hq3 pr _ s3=>⟨_,jJi hq3,?_⟩⟩
 have pl1:=jV7 hrl
 have body:∀(x:Nat×Nat) {G3:Gp} {rs:List Addr} {Ps:List DD},PrAt G3 rs Ps->(∀P,P∈Ps->P.length<=n)->∀(i:Nat) (z:Addr×DD),(rs.zip Ps)[i]? =some z->∀G4 (K:T->Gp->Prop),Sub G3 G4->(∀p G5,G4 p=none->G5 p=some (.lst (((f,x)::z.2).map encP))->Sub G4 G5->K (.ref p) G5)->
   2<=sizeLine/\1<=sizeLine/\∀c2,G4 c2=none->∃r,addR (gup G4 c2 (.lst [.tup [encE f,encE x]])) (.ref c2) (.ref z.1)=some r/\fin3 r (gup G4 c2 (.lst [.tup [encE f,encE x]])) K:=by
  intro x G3 rs Ps pr hPl i z hz G4 K s4 hK
  have hz2:=List.getElem?_zip_eq_some.mp hz
  obtain⟨P2,hP2,hG⟩:=pr.2 i z.1 hz2.1
  rw[hz2.2] at hP2;cases hP2
  have hG4:=s4 _ _ hG
  have hPn:=hPl _ (List.mem_of_getElem? hz2.2)
  refine⟨by omega,by omega,fun c2 hc2=> ?_⟩
  have huc:=jJh hG4 hc2
  refine⟨_,jXz jJd (by rw[jJm huc];exact hG4) (by simp;omega),?_⟩
  intro m hm
  exact hK m _ (jKb hm).2 jJd ((Sub.new hc2).trans (.new hm))
 rw[<-kU4 (f:=T.ref) (Ds:=prs n rest) pr.1]
 refine jXa (es:=rs.zip (prs n rest)) (enc:=fun z=>T.ref z.1) (fun z=>((f,f)::z.2).map encP) (by rw[List.length_zip];omega) (fun G' s=>by rw[kU4 (f:=T.ref) pr.1];exact jJi (s _ _ hq3)) ?_ ?_
 ·intro i z hz G4 K K0 s4 hK
  wp_walk using 1,tSeq
  exact body f pr (fun P hP=>kQ4 hP) i z hz G4 K s4 hK
 intro D rs1 G4 hD hD4 s4 hl1 hn1 hr1
 have hG2D:=s3.none hD
 have ls:∀G',Sub G2 G'->jKw G' (.ref a2)=some (rest.map encE):=fun G' s=>by simp only[jKw,s _ _ h2,asL]
 refine⟨_,ls _ (s3.trans s4),?_⟩
 rw[List.nodup_cons] at hn1
 let Fk:Nat->List DD:=fun k=>(prs n (rest.take k++rest.drop (k+1))).map ((f,rest.getD k (0,0)):: ·)
 have hprs:prs (n+1) (f::rest)=(prs n rest).map ((f,f):: ·)++(List.range rest.length).flatMap Fk:=by rw[prs]
 let J:Nat->St3->Gp->Prop:=fun i τ G'=>∃(v4 v5:Option T) (ws:List Addr),τ=[some (.ref p),some (encE f),some (.ref a2),some (.ref D),v4,v5,none]/\G' D=some (.lst (ws.map T.ref))/\PrAt G' ws ((prs n rest).map ((f,f):: ·)++(List.range i).flatMap Fk)/\D∉ws/\(∀w,w∈ws->G w=none)/\Sub G2 G'
 refine⟨J,?_,?_,?_,?_⟩
 ·exact⟨none,none,rs1,rfl,hD4,by simpa using kQ5 pr.1 hl1 fun i r z h1 h2=>(hr1 i r z h1 h2).2,hn1.1,kUp hl1 (fun i r z h1 h2=>(s2.trans s3).none (hr1 i r z h1 h2).1),s3.trans s4⟩
 ·intro i τ G' hi h_;apply xe3 h_;clear h_;intro v4 v5 ws h_;apply ae5 h_;clear h_;intro h1 h3 h4 hw h5
  exact ls _ h5
 ·intro i y τ G5 hy h_;apply xe3 h_;clear h_;intro v4 v5 ws h_;apply ae5 h_;clear h_;intro h1 h3 h4 hw h5
  obtain⟨z,hz,rfl⟩:=kJf hy
  obtain⟨o,ho,rfl⟩:=jKr hz
  have hil:i<rest.length:=(List.getElem?_eq_some_iff.mp ho).1
  have hog:rest.getD i (0,0)=o:=by simp[List.getD,ho]
  wp_walk using 1,iSeq,tSl,rSlF,jY6,jUk,jKp h1
  have a5:=h5 _ _ h2
  refine⟨.newL ((rest.take i).map encE),?_,?_⟩
  ·simp only[slR,a5]
   rw[cut_to (by rw[List.length_map];omega),List.map_take]
  intro b1 hb1
  have ab1:=jJh a5 hb1
  refine⟨.newL ((rest.drop (i+1)).map encE),?_,?_⟩
  ·simp only[slR,jJm ab1,a5]
   rw[show ((i:Nat):Int)+1=((i+1:Nat):Int) by omega,kUz (by rw[List.length_map];omega),List.map_drop]
  intro b2 hb2
  have hb21:=(jKb hb2).1
  refine⟨_,jXz (by rw[jJm hb21.symm];exact jJd) jJd (by simp;omega),?_⟩
  intro b3 hb3
  have s6:Sub G5 (gup (gup (gup G5 b1 (.lst ((rest.take i).map encE))) b2 (.lst ((rest.drop (i+1)).map encE))) b3 (.lst ((rest.take i).map encE++(rest.drop (i+1)).map encE))):=((Sub.new hb1).trans (.new hb2)).trans (.new hb3)
  have h6:gup (gup (gup G5 b1 (.lst ((rest.take i).map encE))) b2 (.lst ((rest.drop (i+1)).map encE))) b3 (.lst ((rest.take i).map encE++(rest.drop (i+1)).map encE)) b3=some (.lst ((rest.take i++rest.drop (i+1)).map encE)):=by rw[jJd,List.map_append]
  generalize gup (gup (gup G5 b1 (.lst ((rest.take i).map encE))) b2 (.lst ((rest.drop (i+1)).map encE))) b3 (.lst ((rest.take i).map encE++(rest.drop (i+1)).map encE))=G6 at s6 h6 ⊢
  have hl6:(rest.take i++rest.drop (i+1)).length<=n:=by simp;omega
  have pl6:=jV7 hl6
  refine⟨b3,_,rfl,h6,hl6,by omega,fun q2 rs2 G7 hq2 hq7 pr7 _ s7=>⟨_,jJi hq7,?_⟩⟩
  rw[<-kU4 (f:=T.ref) (Ds:=prs n (rest.take i++rest.drop (i+1))) pr7.1]
  refine jXa (es:=rs2.zip (prs n (rest.take i++rest.drop (i+1)))) (enc:=fun z=>T.ref z.1) (fun z=>((f,o)::z.2).map encP) (by rw[List.length_zip];omega) (fun G' s=>by rw[kU4 (f:=T.ref) pr7.1];exact jJi (s _ _ hq7)) ?_ ?_
  ·intro j z hz G8 K K0 s8 hK
   wp_walk using 1,tSeq
   exact body o pr7 (fun P hP=>kQ4 hP) j z hz G8 K s8 hK
  intro E rs3 G8 hE hE8 s8 hl3 hn3 hr3
  have D8:=s8 _ _ (s7 _ _ (s6 _ _ h1))
  have hDr:D∉rs3:=fun z=>by
   obtain⟨j,hj⟩:=List.getElem?_of_mem z
   have hjl:j<(rs2.zip (prs n (rest.take i++rest.drop (i+1)))).length:=by rw[<-hl3];exact (List.getElem?_eq_some_iff.mp hj).1
   have:=(hr3 j D _ hj (List.getElem?_eq_getElem hjl)).1
   rw[s7 _ _ (s6 _ _ h1)] at this;cases this
  have p8:=kQ5 (G:=G8) (x:=(f,o)) pr7.1 hl3 fun i r z h1 h2=>(hr3 i r z h1 h2).2
  have all8:=(h3.sub fun u hu o ho=>s8 _ _ (s7 _ _ (s6 _ _ ho))).app p8
  have e8:(prs n rest).map ((f,f):: ·)++(List.range i).flatMap Fk++(prs n (rest.take i++rest.drop (i+1))).map ((f,o):: ·)=(prs n rest).map ((f,f):: ·)++(List.range (i+1)).flatMap Fk:=by
   rw[List.range_succ,List.flatMap_append,<-List.append_assoc]
   simp only[List.flatMap_cons,List.flatMap_nil,List.append_nil,Fk,hog]
  rw[e8] at all8
  have len8:ws.length+rs3.length<=362880:=by
   have e1:=all8.1
   rw[List.length_append] at e1
   rw[e1]
   rw[hprs] at pl
   have e2:(List.range rest.length).flatMap Fk=(List.range (i+1)).flatMap Fk++((List.range rest.length).drop (i+1)).flatMap Fk:=by
    rw[<-List.flatMap_append]
    congr 1
    rw[show List.range (i+1)=(List.range rest.length).take (i+1) by rw[List.take_range];congr 1;omega,List.take_append_drop]
   rw[e2,<-List.append_assoc,List.length_append] at pl
   omega
  refine⟨D,E,_,_,rfl,rfl,D8,hE8,by rw[List.length_map,List.length_map];omega,_,_,ws++rs3,rfl,by rw[jJd,List.map_append],all8.sub fun u hu o ho=> ?_,fun z=>(List.mem_append.mp z).elim h4 hDr,fun w hm=>(List.mem_append.mp hm).elim (hw w) (kUp hl3 (fun i r z h1 h2=>(((s2.trans h5).trans s6).trans s7).none (hr3 i r z h1 h2).1) w),(((h5.trans s6).trans s7).trans s8).over hG2D⟩
  rw[jJm (show u≠D from fun e=>(List.mem_append.mp (e▸hu)).elim h4 hDr)];exact ho
 ·intro τ G5 h_;apply xe3 h_;clear h_;intro v4 v5 ws h_;apply ae5 h_;clear h_;intro h1 h3 h4 hw h5
  wp_walk using 1,tSeq
  rw[jJ1,List.length_map] at h3
  exact kk D ws G5 (s2.none hG2D) h1 (by rw[hprs];exact h3) hw (s2.trans h5)
abbrev jK8:=jU1 9
theorem kJr {α K:Type} {f:T->Option K} {enc:α->T} {g:α->K} (h:∀a,f (enc a)=some (g a)):∀l:List α,allK f (l.map enc)=some (l.map g)
 | []=>rfl
 | a::l=>by
  rw[List.map_cons,List.map_cons]
  unfold allK
  rw[h a,kJr h l]
theorem keysW (V:Web):jQp (V.map encR)=some (keyW V):=kJr (fun es=>by
 show (allK key1 _).map Sum.inr=_
 rw[kJr (g:=fun p:Nat×Nat=>(.inr [.inl (p.1:Int),.inl (p.2:Int)]:L2.K1)) fun p=>rfl];rfl) V
theorem kZu {V:Web} (h:1<=V.length):SKey false (V.map encR) (keyW V):=by
 refine⟨keysW V,?_,?_⟩
 ·cases V with
  | nil=>cases h
  | cons a V=>rfl
 ·show (keyW V).all _=true
  rw[List.all_eq_true]
  intro k hk
  obtain⟨es,_,rfl⟩:=List.mem_map.mp hk
  show (keyR es).all _=true
  rw[List.all_eq_true]
  intro k hk
  obtain⟨p,_,rfl⟩:=List.mem_map.mp hk
  rfl
theorem jXt {α K:Type} [DecidableEq K] {lt:K->K->Option Bool} {f:α->K} (h:∀a b,(lt (f a) (f b)).isSome=true):∀a b:List α,(L3.lexLt lt (a.map f) (b.map f)).isSome=true
 | [],[]=>rfl
 | [],_::_=>rfl
 | _::_,[]=>rfl
 | x::a,y::b=>by
  rw[List.map_cons,List.map_cons]
  unfold L3.lexLt
  split
  ·exact jXt h a b
  ·exact h x y
theorem qQq (p q:Nat×Nat):(L3.lexLt ltI [.inl (p.1:Int),.inl (p.2:Int)] [.inl (q.1:Int),.inl (q.2:Int)]).isSome=true:=
 jXt (lt:=ltI) (f:=fun i:Nat=>(.inl (i:Int):L2.Key)) (fun i j=>rfl) [p.1,p.2] [q.1,q.2]
theorem row_lt (es fs:List (Nat×Nat)):(L3.lexLt (ltS ltI) (keyR es) (keyR fs)).isSome=true:=
 jXt (lt:=ltS ltI) (f:=fun p:Nat×Nat=>(.inr [.inl (p.1:Int),.inl (p.2:Int)]:L2.K1)) (fun p q=>qQq p q) es fs
theorem web_lt (V V':Web):(ltK (keyW V) (keyW V')).isSome=true:=
 jXt (lt:=ltS (ltS ltI)) (f:=fun es=>(.inr (keyR es):L2.K2)) (fun es fs=>row_lt es fs) V V'
theorem kQy:∀ {a b:List (List T×L2.TKey)},a.Perm b->a.Pairwise (fun x y=>ltK y.2 x.2≠some true)->b.Pairwise (fun x y=>ltK x.2 y.2=some true)->a=b
 | [],b,hp,_,_=>(List.nil_perm.mp hp).symm
 | x::a,[],hp,_,_=>List.perm_nil.mp hp
 | x::a,y::b,hp,ha,hb=>by
  rw[List.pairwise_cons] at ha hb
  have e:x=y:=by
   rcases List.mem_cons.mp (hp.mem_iff.mp (List.mem_cons_self ..)) with e | hx
   ·exact e
   ·rcases List.mem_cons.mp (hp.mem_iff.mpr (List.mem_cons_self ..)) with e | hy
    ·exact e.symm
    ·exact absurd (hb.1 x hx) (ha.1 y hy)
  subst e
  rw[kQy hp.cons_inv ha.2 hb.2]
theorem qKk:∀ {l:List Web},risB l=true->l.Pairwise fun a b=>ltK (keyW a) (keyW b)=some true
 | [],_=> .nil
 | [a],_=>List.pairwise_singleton ..
 | a::b::l,h=>by
  rw[risB,Bool.and_eq_true,decide_eq_true_eq] at h
  have ih:=qKk h.2
  refine List.pairwise_cons.mpr ⟨fun c hc=> ?_,ih⟩
  rcases (List.mem_cons.mp hc) with rfl | hc
  ·exact h.1
  ·exact kQi h.1 ((List.pairwise_cons.mp ih).1 c hc)
theorem kX9:∀(L D:DD),(L.map fun x=>(([.int (x.1.1:Nat),.int (x.1.2:Nat)]:List T),keyE x.1,encE x.2)).foldl (fun kvs e=>putT kvs e.2.1 e.2.2) (kvD D)=kvD (L.foldl (fun D x=>putE D x.1 x.2) D)
 | [],D=>rfl
 | x::L,D=>by
  rw[List.map_cons,List.foldl_cons,List.foldl_cons,<-kX9 L,kJa]
theorem qQz {r d:Nat} {V:Web} (h:V∈evL r d):∃p,p∈prs 9 (allE r d)/\V=webD r d (jUf p):=by
 obtain⟨p,hp,e⟩:=List.mem_map.mp (List.mem_filter.mp h).1
 exact⟨p,hp,e.symm⟩
theorem ixR_dE {G:Gp} {p:Addr} {D:DD} {e v:Nat×Nat} (h:G p=some (.dct (kvD D))) (hv:getE e D=some v):ixR G (.ref p) (.tup [.int (e.1:Nat),.int (e.2:Nat)])=some (encE v):=by
 have h1:valT (kvD D) (keyE e)=some (encE v):=by rw[jZt,hv];rfl
 have h2:jQp [.int (e.1:Nat),.int (e.2:Nat)]=some (keyE e):=rfl
 simp only[ixR,seqT,h,asL,dAt,h2,h1]
def jX3:Sp3:=fun xs G Q=>∃r d:Nat,xs=[.int r,.int d]/\Chk r d/\∀q G',G q=none->G' q=some (.lst ((evL r d).map encW))->Sub G G'->Q (.ref q) G'
def qKb:List Str:=["_law_wide","_law_doors","_law_found","_law_pairs","_law_lead","_law_web","_law_end","_law_other","_law_room","_law_door"]
noncomputable def jYc:TS3:=
 (tSeq (tAsg (tLst tNil) (jJg 2))
 (tSeq (tFor (iSeq (jKd jK8 (jJc (jKd jQ6 (jJc (tVar 0) (jJc (tVar 1) tNil))) tNil))) (jJg 3) (tSeq (tAsg (tCB qKm (jJc (tOp jQg (tVar 3) (jKm [false,false,false,false,false,false,true,true,false,false] (iSeq (tVar 3)) (gTup 2 (jKg (jJg 6) (jKg (jJg 7) gNil))) jQj (tTup (jJc (tVar 7) (jJc (tVar 6) tNil))))) tNil)) (jJg 4))
 (tSeq (tAsg (tCB jKs (jJc (jKm [false,false,false,false,false,false,false,false,true,false] (jKx (jJc (tVar 0) tNil)) (jJg 8) jQj (tCB jKs (jJc (jKm [false,false,false,false,false,false,false,false,false,true] (jKx (jJc (tVar 1) tNil)) (jJg 9) jQj (tOp rIxF (tVar 4) (tTup (jJc (tVar 8) (jJc (tVar 9) tNil))))) tNil))) tNil)) (jJg 5))
 (tIfS (jJ9 (tOp rEqA (jKd jX1 (jJc (tVar 5) (jJc (tC (.int 0)) tNil))) (tVar 5))) (jU4 (tBM "list" jK4 (tVar 2) (jJc (tVar 5) tNil))) jQr))))
 (tRet (tCB qKl (jJc (tVar 2) tNil)))))
theorem kK7:RdOk jX3 jYc qKb:=by
 intro xs G Q h_;apply xe2 h_;clear h_;intro r d h_;apply ae2 h_;clear h_;intro c kk
 show jYc _ [some (.int r),some (.int d),none,none,none,none,none,none,none,none] G
 have hs:=sz
 have hr:=c.r9
 have hr1:=c.r1
 have hd:=c.d6
 have hrd:=c.rd
 wp_walk using 1,jYc,jJ6,iSeq
 refine⟨by omega,fun f hf=> ?_⟩
 refine⟨r,d,rfl,by omega,by omega,fun q0 G2 hq0 hq2 s2=> ?_⟩
 have f2:=s2 _ _ (jJd (a:=f) (o:= .lst []))
 have sG2:Sub G G2:=(Sub.new hf).trans s2
 have hal:(allE r d).length<=9:=by rw[kJs];exact hrd
 refine⟨q0,allE r d,rfl,hq2,hal,Nat.le_refl _,fun q1 rs G3 hq1 hq3 pr fr s3=>⟨_,jJi hq3,?_⟩⟩
 have pl:=jV7 hal
 have pl9:fct 9<=362880:=kYs (Nat.le_refl _)
 have f3:=s3 _ _ f2
 have q1f:q1≠f:=(jJh f2 hq1).symm
 have rf:∀u,u∈rs->u≠f:=fun u hu e=>by have:=fr u hu;rw[e,f2] at this;cases this
 generalize hPs:prs 9 (allE r d)=Ps at pr pl
 have cp:=c.prs
 rw[hPs] at cp
 let J:Nat->St3->Gp->Prop:=fun i τ G'=>∃(v3 v4 v5:Option T),τ=[some (.int r),some (.int d),some (.ref f),v3,v4,v5,none,none,none,none]/\G' f=some (.lst ((((Ps.take i).map fun p=>webD r d (jUf p)).filter fun W=>decide (kJt W 0=W)).map encW))/\G' q1=some (.lst (rs.map T.ref))/\PrAt G' rs Ps/\Sub G G'
 refine⟨J,?_,?_,?_,?_⟩
 ·exact⟨none,none,none,rfl,f3,hq3,pr,sG2.trans s3⟩
 ·intro i τ G' hi h_;apply xe3 h_;clear h_;intro v3 v4 v5 h_;apply ae4 h_;clear h_;intro h1 h2 h3 h4
  exact jJi h2
 ·intro i y τ G4 hy h_;apply xe3 h_;clear h_;intro v3 v4 v5 h_;apply ae4 h_;clear h_;intro h1 h2 h3 h4
  obtain⟨u,hu,rfl⟩:=jKr hy
  obtain⟨P,hP,hG⟩:=h3.2 i u hu
  have hPm:=List.mem_of_getElem? hP
  obtain⟨c1,c2,c3⟩:=cp P hPm
  wp_walk using 1,iSeq,rEqA,jKx
  refine⟨_,jJi hG,?_⟩
  refine jJ8 (es:=P) (enc:=encP) (fun x=>encP (x.2,x.1)) (by omega) (fun G' s=>jJi (s _ _ hG)) ?_ ?_
  ·intro j x hx G5 K K0 s5 hK
   wp_walk using 1,encP
   exact⟨by omega,hK G5 (.refl _)⟩
  intro E G5 hE hE5 s5
  refine⟨_,jXz (s5 _ _ hG) hE5 (by simp;omega),?_⟩
  intro m hm
  refine⟨m,(P++P.map fun x=>(x.2,x.1)).map (fun x=>(([.int (x.1.1:Nat),.int (x.1.2:Nat)]:List T),keyE x.1,encE x.2)),rfl,by rw[jJd,List.map_map,List.map_append,List.map_map];rfl,fun e he=> ?_,by simp;omega,fun lq hlq=> ?_⟩
  ·obtain⟨x,_,rfl⟩:=List.mem_map.mp he;rfl
  have hlead:=(jJd (G:=gup G5 m (.lst (P.map encP++P.map fun x=>encP (x.2,x.1)))) (a:=lq) (o:= .dct (((P++P.map fun x=>(x.2,x.1)).map (fun x=>(([.int (x.1.1:Nat),.int (x.1.2:Nat)]:List T),keyE x.1,encE x.2))).foldl (fun kvs e=>putT kvs e.2.1 e.2.2) [])))
  have s7:Sub G4 (gup (gup G5 m (.lst (P.map encP++P.map fun x=>encP (x.2,x.1)))) lq (.dct (((P++P.map fun x=>(x.2,x.1)).map (fun x=>(([.int (x.1.1:Nat),.int (x.1.2:Nat)]:List T),keyE x.1,encE x.2))).foldl (fun kvs e=>putT kvs e.2.1 e.2.2) []))):=(s5.trans (.new hm)).trans (.new hlq)
  generalize gup (gup G5 m (.lst (P.map encP++P.map fun x=>encP (x.2,x.1)))) lq (.dct (((P++P.map fun x=>(x.2,x.1)).map (fun x=>(([.int (x.1.1:Nat),.int (x.1.2:Nat)]:List T),keyE x.1,encE x.2))).foldl (fun kvs e=>putT kvs e.2.1 e.2.2) []))=G7 at hlead s7 ⊢
  rw[show ((P++P.map fun x=>(x.2,x.1)).map (fun x=>(([.int (x.1.1:Nat),.int (x.1.2:Nat)]:List T),keyE x.1,encE x.2))).foldl (fun kvs e=>putT kvs e.2.1 e.2.2) []=kvD (jUf P) from kX9 _ []] at hlead
  refine⟨by omega,by omega,?_⟩
  rw[show ((r:Nat):Int).toNat=r by omega,jVi]
  refine jJ8 (es:=List.range r) (enc:=fun k:Nat=>T.int k) (fun k=>encR (rowD d (jUf P) k)) (by simp;omega) (fun _ _=>trivial) ?_ ?_
  ·intro j k hk G8 K K0 s8 hK
   have hkr:k<r:=by have:=List.mem_of_getElem? hk;simpa using this
   wp_walk using 1,jKx
   refine⟨by omega,by omega,?_⟩
   rw[show ((d:Nat):Int).toNat=d by omega,jVi]
   refine jJ8 (es:=List.range d) (enc:=fun k:Nat=>T.int k) (fun i=>encE ((getE (k,i) (jUf P)).getD (0,0))) (by simp;omega) (fun _ _=>trivial) ?_ ?_
   ·intro j2 x hx G9 K' K0' s9 hK'
    have hxd:x<d:=by have:=List.mem_of_getElem? hx;simpa using this
    obtain⟨v,hv⟩:=Option.isSome_iff_exists.mp (c2 k x hkr hxd)
    wp_walk using 1,tSeq
    refine⟨by omega,_,ixR_dE (e:=(k,x)) (s9 _ _ (s8 _ _ hlead)) hv,?_⟩
    have:=hK' G9 (.refl _)
    rw[hv] at this
    exact this
   ·intro E2 G9 hE2 hE9 s9
    refine⟨_,jJi hE9,?_⟩
    have:=hK G9 s9
    unfold encR rowD at this
    rw[List.map_map] at this
    exact this
  intro E2 G8 hE2 hE8 s8
  refine⟨_,jJi hE8,?_⟩
  have hW:T.tup ((List.range r).map fun k=>encR (rowD d (jUf P) k))=encW (webD r d (jUf P)):=by unfold encW webD;rw[List.map_map];rfl
  rw[hW]
  have tk:Ps.take (i+1)=Ps.take i++[P]:=by rw[List.take_succ,hP];rfl
  have hlen:(((Ps.take i).map fun p=>webD r d (jUf p)).filter fun W=>decide (kJt W 0=W)).length<=362880:=by
   have h1:=List.length_filter_le (fun W=>decide (kJt W 0=W)) ((Ps.take i).map fun p=>webD r d (jUf p))
   rw[List.length_map,List.length_take] at h1
   omega
  refine⟨webD r d (jUf P),0,rfl,(kKz (by omega) (by omega)).fine c3,by rw[jZr];omega,fun G9 s9=>⟨_,qJ2,?_⟩⟩
  have s49:=(s7.trans s8).trans s9
  by_cases ht:kJt (webD r d (jUf P)) 0=webD r d (jUf P)
  ·rw[if_pos (decide_eq_true ht)]
   have f9:=s49 _ _ h1
   wp_walk using 1,jKp f9,f9
   refine⟨by rw[List.length_map];omega,_,_,_,rfl,?_,by rw[jJm q1f];exact s49 _ _ h2,(h3.sub fun u hu o ho=>by rw[jJm (rf u hu)];exact s49 _ _ ho),(h4.trans s49).over hf⟩
   rw[jJd,tk,List.map_append,List.filter_append,List.map_append]
   simp only[List.map_cons,List.map_nil,List.filter_cons,decide_eq_true ht,if_true,List.filter_nil]
  ·rw[if_neg (by simpa using ht)]
   refine⟨_,_,_,rfl,?_,s49 _ _ h2,h3.sub fun u hu o ho=>s49 _ _ ho,h4.trans s49⟩
   rw[s49 _ _ h1,tk,List.map_append,List.filter_append]
   simp only[List.map_cons,List.map_nil,List.filter_cons,decide_eq_false ht,Bool.false_eq_true,if_false,List.filter_nil,List.append_nil]
 ·intro τ G4 h_;apply xe3 h_;clear h_;intro v3 v4 v5 h_;apply ae4 h_;clear h_;intro h1 h2 h3 h4
  rw[List.length_map,pr.1,List.take_length,<-hPs] at h1
  have h1':G4 f=some (.lst ((evL r d).map encW)):=h1
  wp_walk using 1,tSeq
  have hel:(evL r d).length<=362880:=by
   have h1:=List.length_filter_le (fun W=>decide (kJt W 0=W)) ((prs 9 (allE r d)).map fun p=>webD r d (jUf p))
   rw[List.length_map,hPs] at h1
   show (List.filter _ _).length<=_
   rw[hPs];omega
  have hVl:∀V,V∈evL r d->1<=V.length:=fun V hV=>by obtain⟨p,_,rfl⟩:=qQz hV;rw[jZr];exact hr1
  refine⟨.ref f,false,(evL r d).map fun V=>(V.map encR,keyW V),rfl,by simp only[jKw,h1',asL,List.map_map];rfl,by rw[List.length_map];omega,fun e he=> ?_,fun e he e' he'=> ?_,fun p kys hp pe pw=> ?_⟩
  ·obtain⟨V,hV,rfl⟩:=List.mem_map.mp he
   exact kZu (hVl V hV)
  ·obtain⟨V,hV,rfl⟩:=List.mem_map.mp he
   obtain⟨V',hV',rfl⟩:=List.mem_map.mp he'
   exact web_lt V V'
  ·have ek:kys=(evL r d).map fun V=>(V.map encR,keyW V):=kQy pe pw (by rw[List.pairwise_map];exact qKk c.ris)
   refine kk p _ (h4.none hp) ?_ (h4.trans (.new hp))
   rw[jJd,ek,List.map_map];rfl
theorem jVu {α β:Type} {p:α->Bool} {f:α->β}:∀l:List α,l.filterMap (fun r=>if p r=true then some (f r) else none)=(l.filter p).map f
 | []=>rfl
 | a::l=>by
  rw[List.filterMap_cons,List.filter_cons]
  by_cases h:p a=true
  ·rw[if_pos h,if_pos h,List.map_cons,jVu l]
  ·rw[if_neg h,if_neg h,jVu l]
noncomputable def szR (most doors w:Nat):List (Nat×Nat):=(((List.range (7-doors)).map (· +doors)).filter fun m=>decide ((w+1)*m<=most)&&(decide (m>0)||decide (w+1<4))).map fun m=>(w+1,m)
theorem kV6 {most doors w:Nat}:(szR most doors w).length<=7:=by
 unfold szR
 rw[List.length_map]
 refine Nat.le_trans (List.length_filter_le _ _) ?_
 rw[List.length_map,List.length_range];omega
noncomputable def jV0:Sp3:=fun xs G Q=>∃most doors:Nat,xs=[.int most,.int doors]/\most<=100/\doors<=7/\∀q G',G q=none->G' q=some (.lst ((szF most doors).map encE))->Sub G G'->Q (.ref q) G'
def kZk:List Str:=["_law_most","_law_doors","_law_found","_law_wide","_law_some","_law_many"]
noncomputable def jV3:TS3:=
 (tSeq (tAsg (tLst tNil) (jJg 2))
 (tSeq (tFor (kQj (jJc (tC (.int 1)) (jJc (tC (.int 9)) tNil))) (jJg 3) (tSeq (tAsg (jKm [false,false,false,false,false,true] (kQj (jJc (tVar 1) (jJc (tC (.int 7)) tNil))) (jJg 5) (jJ9 (tOp rLeF (tOp jV5 (tVar 3) (tVar 5)) (tVar 0))) (tVar 5)) (jJg 4))
 (jU4 (tBM "list" jV6 (tVar 2) (jJc (jKm [false,false,false,false,false,true] (iSeq (tVar 4)) (jJg 5) (tOr (jJ9 (tOp rGt (tVar 5) (tC (.int 0)))) (jJ9 (tOp rLt (tVar 3) (tC (.int 4))))) (tTup (jJc (tVar 3) (jJc (tVar 5) tNil)))) tNil)))))
 (tRet (tVar 2))))
theorem kJz:RdOk jV0 jV3 kZk:=by
 intro xs G Q h_;apply xe2 h_;clear h_;intro most doors h_;apply ae3 h_;clear h_;intro hm hd kk
 show jV3 _ [some (.int most),some (.int doors),none,none,none,none] G
 have hs:=sz
 wp_walk using 1,jV3,jJ6,kQj
 refine⟨by omega,fun q hq=>⟨by omega,by omega,by omega,by omega,?_⟩⟩
 rw[show ((9:Int)-1).toNat=8 from rfl,show (1:Int)=((1:Nat):Int) from rfl,jX8]
 let J1:Nat->St3->Gp->Prop:=fun k τ G'=>∃(v3 v4:Option T),τ=[some (.int most),some (.int doors),some (.ref q),v3,v4,none]/\G' q=some (.lst (((List.range k).flatMap (szR most doors)).map encE))/\Sub G G'
 refine⟨J1,?_,?_,?_,?_⟩
 ·exact xi2 _ _ rfl ⟨jJd,.new hq⟩
 ·intros;trivial
 ·intro w y τ G1 hy h_;apply xe2 h_;clear h_;intro v3 v4 h_;apply ae2 h_;clear h_;intro h1 h2
  obtain⟨w',hw',rfl⟩:=jKr hy
  obtain⟨hw,rfl⟩:w<8/\w=w':=by
   obtain⟨q1,q2⟩:=List.getElem?_eq_some_iff.mp hw'
   rw[List.getElem_range] at q2
   rw[List.length_range] at q1
   exact⟨q1,q2⟩
  wp_walk using 1,kQj,iSeq,rLeF
  refine⟨by omega,by omega,by omega,by omega,?_⟩
  rw[show ((7:Int)-(doors:Nat)).toNat=7-doors by omega,jX8,show ((List.range (7-doors)).map fun (k:Nat)=>T.int ((doors+k:Nat):Int))=((List.range (7-doors)).map (· +doors)).map fun m:Nat=>T.int m by rw[List.map_map];exact List.map_congr_left fun k _=>by simp[Nat.add_comm]]
  generalize hes:(List.range (7-doors)).map (· +doors)=es
  have hel:es.length<=7:=by rw[<-hes,List.length_map,List.length_range];omega
  have hem:∀m,m∈es->m<14:=fun m hmm=>by
   rw[<-hes] at hmm
   obtain⟨k,hk,rfl⟩:=List.mem_map.mp hmm
   have:=List.mem_range.mp hk;omega
  refine jXx (es:=es) (enc:=fun m:Nat=>T.int m) (fun m=>if decide ((w+1)*m<=most)=true then some (T.int (m:Nat)) else none) (by omega) (fun _ _=>trivial) ?_ ?_
  ·intro j m hj G2 K K0 s2 hK hK0
   have hm14:=hem m (List.mem_of_getElem? hj)
   wp_walk using 1,rLeF
   refine⟨.inl ⟨by omega,by omega⟩,?_⟩
   have e:(((1+w:Nat):Int)*((m:Nat):Int)<=((most:Nat):Int))↔(w+1)*m<=most:=by
    rw[<-Int.natCast_mul,Int.ofNat_le,Nat.add_comm]
   by_cases h:(w+1)*m<=most
   ·rw[if_pos (e.mpr h)];exact hK _ _ (by rw[if_pos (decide_eq_true h)]) (.refl _)
   ·rw[if_neg (fun z=>h (e.mp z))];exact hK0 (by rw[if_neg (by simpa using h)]) _ (.refl _)
  intro E G2 hE hE2 s2
  rw[jVu (p:=fun m=>decide ((w+1)*m<=most))] at hE2
  generalize hfs:es.filter (fun m=>decide ((w+1)*m<=most))=fs at hE2
  have hfl:fs.length<=7:=by rw[<-hfs];exact Nat.le_trans (List.length_filter_le _ _) hel
  have q2:=s2 _ _ h1
  wp_walk using 1,jKp q2,iSeq
  refine⟨_,jJi hE2,?_⟩
  refine jXx (es:=fs) (enc:=fun m:Nat=>T.int m) (fun m=>if (decide (m>0)||decide (w+1<4))=true then some (encE (w+1,m)) else none) (by omega) (fun G' s=>jJi (s _ _ hE2)) ?_ ?_
  ·intro j m hj G3 K K0 s3 hK hK0
   wp_walk using 1,tSeq
   have fin:(decide (m>0)||decide (w+1<4))=true->2<=sizeLine/\K (.tup [.int ((1+w:Nat):Int),.int (m:Nat)]) G3:=fun h=>⟨by omega,by
    have:=hK _ G3 (if_pos h) (.refl _)
    rw[Nat.add_comm 1 w];exact this⟩
   by_cases h1:m>0
   ·rw[if_pos (by omega)]
    exact fin (by simp[h1])
   ·rw[if_neg (by omega)]
    by_cases h2:w+1<4
    ·rw[if_pos (by omega)]
     exact fin (by simp[h2])
    ·rw[if_neg (by omega)]
     exact hK0 (if_neg (by simp[h1];omega)) _ (.refl _)
  intro F G3 hF hF3 s3
  rw[jVu (p:=fun m=>decide (m>0)||decide (w+1<4)),<-hfs,List.filter_filter] at hF3
  have hrow:(es.filter fun m=>(decide (m>0)||decide (w+1<4))&&decide ((w+1)*m<=most)).map (fun m=>encE (w+1,m))=(szR most doors w).map encE:=by
   unfold szR
   rw[List.map_map,hes]
   congr 1
   refine List.filter_congr fun m _=>Bool.and_comm ..
  rw[hrow] at hF3
  have hfw:((List.range w).flatMap (szR most doors)).length<=(List.range w).length*7:=kYr fun a _=>kV6
  have hrl:=kV6 (most:=most) (doors:=doors) (w:=w)
  rw[List.length_range] at hfw
  refine⟨q,F,_,_,rfl,rfl,s3 _ _ q2,hF3,by rw[List.length_map,List.length_map];omega,?_⟩
  exact xi2 _ _ rfl ⟨by rw[jJd,List.range_succ,List.flatMap_append,List.map_append];simp,((h2.trans s2).trans s3).over hq⟩
 ·intro τ G1 h_;apply xe2 h_;clear h_;intro v3 v4 h_;apply ae2 h_;clear h_;intro h1 h2
  rw[List.length_map,List.length_range] at h1
  wp_walk using 1,tSeq
  exact kk q G1 hq h1 h2
theorem okD_ok {x:T} (h:OkD 40 x):eqOk x=true:=by
 unfold eqOk
 rw[h.tr,h.lay,decide_eq_true (show (td x).depth<=50 by have:=h.dep;omega)];rfl
theorem kZg {G:Gp} {b p:Addr} {n:Nat} {xs:List T} (h:BoxAt G b n) (hp:G p=some (.lst xs)) (hx:∀x y z:Int,xs≠[.int x,.int y,.int z]):p≠b:=by
 rintro rfl
 obtain⟨x,y,z,h1,_⟩:=h
 rw[h1] at hp
 cases hp
 exact hx x y z rfl
theorem kQm {ms:List (Nat×Nat)}:∀x y z:Int,ms.map encE≠[.int x,.int y,.int z]:=by
 intro x y z h
 cases ms with
 | nil=>cases h
 | cons a ms=>cases h
theorem kZ4 {s:Nat×Nat} (h:s∈szF 8 0):s.1*s.2<=9:=by
 rw[kV7] at h
 revert s
 decide
theorem chk_sz {s:Nat×Nat} (h:s∈szF 8 0):Chk s.1 s.2:=by
 obtain⟨⟨h1,h2,h3⟩,h4⟩:=chk_of h
 exact chk_is h1 h2 h3 (kZ4 h) h4
theorem ev_len {r d:Nat} (c:Chk r d):(evP r d).length<=5000:=by
 have hr:=c.r1
 obtain⟨k,rfl⟩:∃k,r=k+1:=⟨r-1,by omega⟩
 have h1:=(kQ9 (c.lev k d (by omega) (Nat.le_refl _))).1
 have h2:=List.length_filter_le isWB ((allL (k+1) d (k+1)).map (webD (k+1) d))
 rw[List.length_map] at h2
 exact Nat.le_trans h2 h1
theorem ev_pl {r d:Nat} (c:Chk r d):∀u,u∈(evP r d).map encW->PlN 3 u:=by
 intro u hu
 obtain⟨V,hV,rfl⟩:=List.mem_map.mp hu
 obtain⟨D,_,rfl⟩:=List.mem_map.mp (List.mem_filter.mp hV).1
 have hz:=kKz (r:=r) (d:=d) (D:=D) (by have:=c.r9;omega) (by have:=c.d6;omega)
 refine pl_web hz.len fun es he=> ?_
 obtain⟨i,hi⟩:=List.getElem?_of_mem he
 exact hz.row i es hi
def kXb:Sp3:=fun xs G Q=>∃ns:List Int,xs=[.scr (jK5 ns)]/\ns.length<=63/\∀G',Q (.bl true) G'
def N_law:List Str:=["_law_script","_law_sizes_here","_law_met","_law_box_here","_law_turn","_law_size","_law_found","_law_due"]
noncomputable def kQ2:TS3:=
 (tSeq (tAsg (jKd jV0 (jJc (tC (.int 8)) (jJc (tC (.int 0)) tNil))) (jJg 1))
 (tSeq (tAsg (tLst tNil) (jJg 2))
 (tSeq (tFor (iSeq (jKd jU5 (jJc (tVar 0) (jJc (tC (.int 6)) tNil)))) (jJg 3) (tFor (jKx (jJc (tC (.int 2)) tNil)) (jJg 4) (tSeq (tAsg (tOp rIxF (tVar 1) (jKd jX2 (jJc (tVar 3) (jJc (tCB rLen (jJc (tVar 1) tNil)) tNil)))) (jJg 5))
 (tIfS (jJ9 (tOp kQb (tVar 5) (tVar 2))) (tSeq (jU4 (tBM "list" jK4 (tVar 2) (jJc (tVar 5) tNil)))
 (tSeq (tAsg (jKd jQl (jJc (tOp rIxF (tVar 5) (tC (.int 0))) (jJc (tOp rIxF (tVar 5) (tC (.int 1))) tNil))) (jJg 6))
 (tSeq (tAsg (jKd jX3 (jJc (tOp rIxF (tVar 5) (tC (.int 0))) (jJc (tOp rIxF (tVar 5) (tC (.int 1))) tNil))) (jJg 7))
 (tSeq (tIfS (tNot (jJ9 (jKd jUw (jJc (tVar 6) (jJc (tVar 7) tNil))))) (tRet (tC (.bl false))) jQr)
 (tSeq (jU4 (tBM "list" jK4 (tVar 6) (jJc (tTup tNil) tNil)))
 (tIfS (tNot (jJ9 (jKd jUw (jJc (jKd jQl (jJc (tOp rIxF (tVar 5) (tC (.int 0))) (jJc (tOp rIxF (tVar 5) (tC (.int 1))) tNil))) (jJc (tVar 7) tNil))))) (tRet (tC (.bl false))) jQr)))))) jQr))))
 (tRet (tC (.bl true))))))
theorem kZ2:RdOk kXb kQ2 N_law:=by
 intro xs G Q h_;apply xe1 h_;clear h_;intro ns h_;apply ae2 h_;clear h_;intro hns kk
 show kQ2 _ [some (.scr (jK5 ns)),none,none,none,none,none,none,none] G
 have hs:=sz
 have hsl:(szF 8 0).length=21:=by rw[kV7];rfl
 wp_walk using 1,kQ2,jJ6,iSeq
 refine⟨8,0,rfl,by decide,by decide,fun S G1 hS hS1 s1=>⟨by omega,fun m hm=> ?_⟩⟩
 have S2:gup G1 m (.lst []) S=some (.lst ((szF 8 0).map encE)):=by rw[jJm (jJh hS1 hm)];exact hS1
 have m2:gup G1 m (.lst []) m=some (.lst (([]:List (Nat×Nat)).map encE)):=jJd
 have hSm:S≠m:=jJh hS1 hm
 generalize gup G1 m (.lst [])=G2 at S2 m2
 refine⟨ns,6,rfl,hns,by decide,by decide,fun D rs G3 hD hD3 hl hnd hbx s3=>⟨_,jJi hD3,?_⟩⟩
 rw[List.nodup_cons] at hnd
 have hDm:D≠m:=(jJh m2 hD).symm
 let J1:Nat->St3->Gp->Prop:=fun i τ G'=>∃(v3 v4 v5 v6 v7:Option T) (ms:List (Nat×Nat)),τ=[some (.scr (jK5 ns)),some (.ref S),some (.ref m),v3,v4,v5,v6,v7]/\G' S=some (.lst ((szF 8 0).map encE))/\G' m=some (.lst (ms.map encE))/\ms.length<=2*i/\G' D=some (.lst (rs.map T.ref))/\∀(j:Nat) (r:Addr),i<=j->rs[j]? =some r->BoxAt G' r 0
 refine⟨J1,?_,?_,?_,?_⟩
 ·exact⟨none,none,none,none,none,[],rfl,s3 _ _ S2,s3 _ _ m2,by simp,hD3,fun j r _ hj=>hbx r (List.mem_of_getElem? hj)⟩
 ·intro i τ G' hi h_;apply xe6 h_;clear h_;intro v3 v4 v5 v6 v7 ms h_;apply ae5 h_;clear h_;intro h1 h2 h3 h4 h5
  exact jJi h4
 ·intro i y τ G4 hy h_;apply xe6 h_;clear h_;intro v3 v4 v5 v6 v7 ms h_;apply ae5 h_;clear h_;intro h1 h2 h3 h4 h5
  obtain⟨b,hbi,rfl⟩:=jKr hy
  have hb4:=h5 i b (Nat.le_refl _) hbi
  have hil:i<rs.length:=(List.getElem?_eq_some_iff.mp hbi).1
  have hbm:=List.mem_of_getElem? hbi
  have hDb:D≠b:=fun e=>hnd.1 (e▸hbm)
  have hSb:S≠b:=kZg hb4 h1 kQm
  have hmb:m≠b:=kZg hb4 h2 kQm
  wp_walk using 1,jJ6,jKx
  refine⟨by omega,by omega,?_⟩
  let J2:Nat->St3->Gp->Prop:=fun t τ G'=>∃(v4 v5 v6 v7:Option T) (ms:List (Nat×Nat)),τ=[some (.scr (jK5 ns)),some (.ref S),some (.ref m),some (.ref b),v4,v5,v6,v7]/\G' S=some (.lst ((szF 8 0).map encE))/\G' m=some (.lst (ms.map encE))/\ms.length<=2*i+t/\G' D=some (.lst (rs.map T.ref))/\BoxAt G' b t/\∀(j:Nat) (r:Addr),i+1<=j->rs[j]? =some r->BoxAt G' r 0
  refine⟨J2,?_,?_,?_,?_⟩
  ·exact⟨_,_,_,_,ms,rfl,h1,h2,by omega,h4,hb4,fun j r hj hr=>h5 j r (by omega) hr⟩
  ·intros;trivial
  ·intro t x τ G5 hx h_;apply xe5 h_;clear h_;intro v4 v5 v6 v7 ms h_;apply ae6 h_;clear h_;intro i1 i2 i3 i4 i5 i6
   obtain⟨ht,rfl⟩:=jQv hx
   have ht2:t<2:=ht
   wp_walk using 1,kQb,jJi i1
   refine⟨b,_,t,rfl,i5,by omega,by rw[List.length_map,hsl];decide,by rw[List.length_map,hsl];decide,fun x G6 x0 x1 b6 k6=> ?_⟩
   rw[List.length_map,hsl] at x1
   obtain⟨x,rfl⟩:=Int.eq_ofNat_of_zero_le x0
   have hx21:x<(szF 8 0).length:=by rw[hsl];omega
   have S6:=k6 _ _ hSb i1
   have m6:=k6 _ _ hmb i2
   have D6:=k6 _ _ hDb i4
   have B6:∀(j:Nat) (r:Addr),i+1<=j->rs[j]? =some r->BoxAt G6 r 0:=fun j r hj hr=>by
    have hne:r≠b:=fun e=>by
     have:=(List.getElem?_inj hil hnd.2).mp (hbi.trans (e▸hr.symm))
     omega
    obtain⟨a1,a2,a3,h,h'⟩:=i6 j r hj hr
    exact⟨a1,a2,a3,k6 _ _ hne h,h'⟩
   refine⟨encE (szF 8 0)[x],by rw[jVa S6,atN,List.getElem?_map,List.getElem?_eq_getElem hx21];rfl,?_⟩
   have hsm:=List.getElem_mem hx21
   generalize (szF 8 0)[x]=sz' at hsm ⊢
   have c:=chk_sz hsm
   refine⟨_,m6,okD_ok okE,kX0 (fun y hy=>by obtain⟨e,_,rfl⟩:=List.mem_map.mp hy;exact okE),?_⟩
   generalize (tds (ms.map encE)).any (fun z=>PyData.eqv z (td (encE sz')))=cc
   cases cc with
   | true=>
    rw[if_neg (by decide)]
    exact⟨_,_,_,_,ms,rfl,S6,m6,by omega,D6,b6,B6⟩
   | false=>
    rw[if_pos rfl]
    refine⟨of_eq_true (jKp m6),_,m6,by rw[List.length_map];omega,?_⟩
    have e2:ms.map encE++[encE sz']=(ms++[sz']).map encE:=by rw[List.map_append];rfl
    rw[e2]
    have m7:gup G6 m (.lst ((ms++[sz']).map encE)) m=some (.lst ((ms++[sz']).map encE)):=jJd
    have S7:gup G6 m (.lst ((ms++[sz']).map encE)) S=some (.lst ((szF 8 0).map encE)):=by rw[jJm hSm];exact S6
    have D7:gup G6 m (.lst ((ms++[sz']).map encE)) D=some (.lst (rs.map T.ref)):=by rw[jJm hDm];exact D6
    have b7:BoxAt (gup G6 m (.lst ((ms++[sz']).map encE))) b (t+1):=b6.gup hmb.symm
    have B7:∀(j:Nat) (r:Addr),i+1<=j->rs[j]? =some r->BoxAt (gup G6 m (.lst ((ms++[sz']).map encE))) r 0:=fun j r hj hr=>(B6 j r hj hr).gup (kZg (B6 j r hj hr) m6 kQm).symm
    generalize gup G6 m (.lst ((ms++[sz']).map encE))=G7 at m7 S7 D7 b7 B7
    have el:=ev_len c
    have ep:=ev_pl c
    refine⟨.int (sz'.1:Nat),rfl,.int (sz'.2:Nat),rfl,sz'.1,sz'.2,rfl,c,fun q G8 hq hq8 s8=> ?_⟩
    refine⟨.int (sz'.1:Nat),rfl,.int (sz'.2:Nat),rfl,sz'.1,sz'.2,rfl,c,fun q2 G9 hq2 hq9 s9=> ?_⟩
    rw[<-c.eq] at hq9
    have hqq:q≠q2:=jJh hq8 hq2
    refine⟨.ref q,.ref q2,rfl,.inr ⟨q,q2,_,rfl,rfl,s9 _ _ hq8,hq9,by rw[List.length_map];omega,ep⟩,fun G10 s10=>⟨true,rfl,?_⟩⟩
    rw[if_neg (by decide)]
    have q10:=s10 _ _ (s9 _ _ hq8)
    have s710:Sub G7 G10:=(s8.trans s9).trans s10
    have sv:Sub G7 (gup G10 q (.lst ((evP sz'.1 sz'.2).map encW++[.tup []]))):=s710.over hq
    have q211:gup G10 q (.lst ((evP sz'.1 sz'.2).map encW++[.tup []])) q2=some (.lst ((evP sz'.1 sz'.2).map encW)):=by rw[jJm hqq.symm];exact s10 _ _ hq9
    refine⟨of_eq_true (jKp q10),by omega,q,rfl,_,q10,by rw[List.length_map];omega,?_⟩
    generalize gup G10 q (.lst ((evP sz'.1 sz'.2).map encW++[.tup []]))=G11 at sv q211 ⊢
    refine⟨.int (sz'.1:Nat),rfl,.int (sz'.2:Nat),rfl,sz'.1,sz'.2,rfl,c,fun q3 G12 hq3 hq12 s12=> ?_⟩
    refine⟨.ref q3,.ref q2,rfl,.inr ⟨q3,q2,_,rfl,rfl,hq12,s12 _ _ q211,by rw[List.length_map];omega,ep⟩,fun G13 s13=>⟨true,rfl,?_⟩⟩
    rw[if_neg (by decide)]
    have sz13:Sub G7 G13:=(sv.trans s12).trans s13
    exact⟨_,_,_,_,ms++[sz'],rfl,sz13 _ _ S7,sz13 _ _ m7,by rw[List.length_append,List.length_singleton];omega,sz13 _ _ D7,b7.sub sz13,fun j r hj hr=>(B7 j r hj hr).sub sz13⟩
  ·intro τ G5 h_;apply xe5 h_;clear h_;intro v4 v5 v6 v7 ms h_;apply ae6 h_;clear h_;intro i1 i2 i3 i4 i5 i6
   exact⟨_,_,_,_,_,ms,rfl,i1,i2,by have:ms.length<=2*i+2:=i3;omega,i4,i6⟩
 ·intro τ G4 h_;apply xe6 h_;clear h_;intro v3 v4 v5 v6 v7 ms h_;apply ae5 h_;clear h_;intro h1 h2 h3 h4 h5
  wp_walk using 1,tSeq
  exact kk G4
end W
namespace W
open PySem PySem.Spec PyProof.Rows L2 L3
theorem ln1 {α:Type} {us:List α} {C:List α->Prop} (h:us.length=1) (k:∀a0,C [a0]):C us:=by
 obtain⟨a0,us,rfl⟩:=List.exists_cons_of_length_eq_add_one h
 replace h:=Nat.succ.inj h
 cases List.length_eq_zero_iff.mp h
 exact k a0
theorem ln2 {α:Type} {us:List α} {C:List α->Prop} (h:us.length=2) (k:∀a0 a1,C [a0,a1]):C us:=by
 obtain⟨a0,us,rfl⟩:=List.exists_cons_of_length_eq_add_one h
 replace h:=Nat.succ.inj h
 obtain⟨a1,us,rfl⟩:=List.exists_cons_of_length_eq_add_one h
 replace h:=Nat.succ.inj h
 cases List.length_eq_zero_iff.mp h
 exact k a0 a1
theorem ln3 {α:Type} {us:List α} {C:List α->Prop} (h:us.length=3) (k:∀a0 a1 a2,C [a0,a1,a2]):C us:=by
 obtain⟨a0,us,rfl⟩:=List.exists_cons_of_length_eq_add_one h
 replace h:=Nat.succ.inj h
 obtain⟨a1,us,rfl⟩:=List.exists_cons_of_length_eq_add_one h
 replace h:=Nat.succ.inj h
 obtain⟨a2,us,rfl⟩:=List.exists_cons_of_length_eq_add_one h
 replace h:=Nat.succ.inj h
 cases List.length_eq_zero_iff.mp h
 exact k a0 a1 a2
theorem ln4 {α:Type} {us:List α} {C:List α->Prop} (h:us.length=4) (k:∀a0 a1 a2 a3,C [a0,a1,a2,a3]):C us:=by
 obtain⟨a0,us,rfl⟩:=List.exists_cons_of_length_eq_add_one h
 replace h:=Nat.succ.inj h
 obtain⟨a1,us,rfl⟩:=List.exists_cons_of_length_eq_add_one h
 replace h:=Nat.succ.inj h
 obtain⟨a2,us,rfl⟩:=List.exists_cons_of_length_eq_add_one h
 replace h:=Nat.succ.inj h
 obtain⟨a3,us,rfl⟩:=List.exists_cons_of_length_eq_add_one h
 replace h:=Nat.succ.inj h
 cases List.length_eq_zero_iff.mp h
 exact k a0 a1 a2 a3
def top (i:Nat):Stmt:=PySem.Challenge.pw_stonewalker_k41_even_webs.main.body.getD i (.Pass ⟨0,0,0,0⟩)
def FnAt (K:PySem.W.Frag) (mg:Str->Option Value) (x:Str) (i:Nat):Prop:=∃f fd,mg x=some (.ref f)/\Fun K x x (top i) f fd
structure Txt (K:PySem.W.Frag) (mg:Str->Option Value):Prop where
 n_abs:mg "abs"=none
 n_all:mg "all"=none
 n_bool:mg "bool"=none
 n_dict:mg "dict"=none
 n_enumerate:mg "enumerate"=none
 n_int:mg "int"=none
 n_isinstance:mg "isinstance"=none
 n_len:mg "len"=none
 n_list:mg "list"=none
 n_max:mg "max"=none
 n_min:mg "min"=none
 n_range:mg "range"=none
 n_sorted:mg "sorted"=none
 n_str:mg "str"=none
 n_tuple:mg "tuple"=none
 n_zip:mg "zip"=none
 f_tied:FnAt K mg "tied" 1
 f_sketched:FnAt K mg "sketched" 2
 f_is_number:FnAt K mg "is_number" 4
 f_is_number_of_room:FnAt K mg "is_number_of_room" 5
 f_is_end:FnAt K mg "is_end" 6
 f_is_room:FnAt K mg "is_room" 7
 f_leads_back:FnAt K mg "leads_back" 8
 f_all_lead_back:FnAt K mg "all_lead_back" 9
 f_first_comings:FnAt K mg "first_comings" 10
 f_is_web:FnAt K mg "is_web" 11
 f_tied_on:FnAt K mg "tied_on" 13
 f_even_webs:FnAt K mg "even_webs" 14
 f_l_box:FnAt K mg "_law_box" 16
 f_l_take:FnAt K mg "_law_take" 17
 f_l_alike:FnAt K mg "_law_alike" 18
 f_l_told:FnAt K mg "_law_told" 19
 f_l_pairings:FnAt K mg "_law_pairings" 20
 f_l_all_ends:FnAt K mg "_law_all_ends" 21
 f_l_even:FnAt K mg "_law_even" 22
 f_l_sizes:FnAt K mg "_law_sizes" 23
 f_l_folded:FnAt K mg "_law_folded" 24
 f_law:FnAt K mg "law" 25
variable {P:Program} {w:World} {K:PySem.W.Frag} {mg:Str->Option Value} {base:Heap}
theorem cal3 {x:Str} {i k:Nat} {N ps:List Str} {sp:Sp3} {t:TS3} (F:FnAt K mg x i) (h:∀xs G Q,sp xs G Q->t {nx:=fun _ G'=>Q .non G',rt:=Q} (jKu N xs) G)
  (d:∀(f:Addr) (cdv:Value) (A:Around) (outer:List Env) (s:Shared) (H:Hp) (E:XK),Room k (A.deeper (envOfC x (jJv (top i)) s.heap.objs.size f cdv))->(A.deeper (envOfC x (jJv (top i)) s.heap.objs.size f cdv)).units+20<cLine->N.Nodup->PSs3 (cxOf CX0 P w K mg base N x (jJv (top i)) f cdv A outer s H E).nox (jQs (top i)) t)
  (S:FnScope N ps (jJv (top i)):=by exact⟨rfl,rfl,rfl,by decide +kernel,rfl,by decide +kernel,by decide +kernel⟩)
  (b:∀(kV doc pm:Value) (an:Option Addr) (cdv ct:Value) (us:List Value),us.length=ps.length->bindArgs (PySem.W.fnOf x x (jVc (top i)) (jQs (top i)) (jJv (top i)) .none kV doc pm an cdv ct) ⟨us,[]⟩=pure (ps.zip us):=by (intro _ _ _ _ _ _ us hl;first | (apply ln1 hl;intros;rfl) | (apply ln2 hl;intros;rfl) | (apply ln3 hl;intros;rfl) | (apply ln4 hl;intros;rfl)))
  (m:Mono sp:=by (intro xs G Q Q' hq;(repeat' (first | (refine Exists.imp fun _=> ?_) | (refine And.imp_right ?_)));intro k;intros;apply hq;apply k<;>assumption))
  (n:∀xs G Q,sp xs G Q->xs.length=ps.length:=by (intro xs G Q h;repeat (first | exact (congrArg List.length h.1).trans rfl | obtain⟨_,h⟩:=h))):Cal P w K mg base (k+1) x ps sp:=by
 obtain⟨f,fd,a,F⟩:=F
 exact⟨⟨f,fd,fn3 F S fun cdv A outer s H E hr=>⟨t,d f cdv A outer s H E hr (hu_of hr) S.nd,h⟩,a,F.kp,F.binds b⟩,m,n⟩
theorem cal0 {x:Str} {i k:Nat} {ps:List Str} (F:FnAt K mg x i) (b:∀(kV doc pm:Value) (an:Option Addr) (cdv ct:Value) (us:List Value),us.length=ps.length->bindArgs (PySem.W.fnOf x x (jVc (top i)) (jQs (top i)) (jJv (top i)) .none kV doc pm an cdv ct) ⟨us,[]⟩=pure (ps.zip us):=by (intro _ _ _ _ _ _ us hl;first | (apply ln1 hl;intros;rfl) | (apply ln2 hl;intros;rfl) | (apply ln3 hl;intros;rfl) | (apply ln4 hl;intros;rfl))):Cal P w K mg base k x ps (fun _ _ _=>False):=by
 obtain⟨f,fd,a,F⟩:=F
 refine⟨⟨f,fd,⟨fun vs H Q E h=>h.1,?_⟩,a,F.kp,F.binds b⟩,fun _ _ _ _ _ h=>h,fun _ _ _ h=>h.elim⟩
 intros
 rename_i h
 exact absurd h (by rintro⟨_,_,_,_,_,h⟩;exact h)
theorem qQt (T:Txt K mg):Cal P w K mg base 1 "tied" ["leads","start","end"] kK2:=
 cal3 T.f_tied kXi fun _ _ _ _ _ _ _ hr hu nd=>
  (jJf (jKh (i:=3) nd (jKt qUz (by rfl) T.n_dict rfl (jJa (jJb 0) jJe)))
   (jJf (kJx (jJb 2) (kQk (jJb 3) (jJb 1) (s_F hu)))
   (jJf (kJx (jJb 1) (kQk (jJb 3) (jJb 2) (s_F hu)))
   (jJj (jKa (jJb 3))))))
theorem kQd (T:Txt K mg):Cal P w K mg base 1 "sketched" ["counts","leads"] jQ4:=
 cal3 T.f_sketched jZ6 fun _ _ _ _ _ _ _ hr hu nd=>
  (jJf (jKh (i:=2) nd (jQ0 jJe))
   (jJf (jUd PassesOwn.never rfl (kUm rfl T.n_enumerate rfl (jJa (jJb 0) jJe)) (jYp rfl (jJz (jJp (i:=3) nd) (jJz (jJp (i:=4) nd) jUp))) (jJj (jUl (e_bm PySem.F.plainAttrs_list PySem.F.slot_list_append PySem.F.type_list_append jQa (jJb 2) (jJa (jKt jXc (by rfl) T.n_tuple rfl (jJa (jQi (mask:=[false,false,false,false,false,true]) rfl ⟨rfl,rfl,rfl,rfl,rfl,rfl,rfl⟩ (jKk rfl T.n_range (jJa (jJb 4) jJe)) jJx (fun C fp s H=>(jJp (i:=5) nd)) (fun C fp s H=>jK7) (fun C fp s H=>(e_bm PySem.F.plainAttrs_dict PySem.F.slot_dict_get PySem.F.type_dict_get (m_getD hu) (jJb 1) (jJa (jUr (jJa (jJb 3) (jJa (jJb 5) jJe))) jJe)))) jJe)) jJe)))))
   (jJj (jKa (jKt jXc (by rfl) T.n_tuple rfl (jJa (jJb 2) jJe))))))
theorem jUo (T:Txt K mg):Cal P w K mg base 1 "is_number" ["thing"] jKv:=
 cal3 T.f_is_number jY7 fun _ _ _ _ _ _ _ hr hu nd=>
  (jJj (jKa (jYu (jJo jVd (by rfl) T.n_isinstance rfl (jJa (jJb 0) (jJa (e_ty rfl T.n_int rfl) jJe))) (kKd (e_not (jJo jVd (by rfl) T.n_isinstance rfl (jJa (jJb 0) (jJa (e_ty rfl T.n_bool rfl) jJe))))))))
theorem jU2 (T:Txt K mg):Cal P w K mg base 2 "is_number_of_room" ["web","thing"] jKe:=
 cal3 T.f_is_number_of_room jUe fun _ _ _ _ _ _ _ hr hu nd=>
  (jJj (jKa (jYu (jKn (jUo T) (hr.mono (by decide)) (jJa (jJb 1) jJe)) (kKd (qUn (qQx hu) o_lt jJl (jJb 1) (jJo jYx (by rfl) T.n_len PySem.boot_len (jJa (jJb 0) jJe)))))))
theorem kXz (T:Txt K mg):Cal P w K mg base 2 "is_end" ["thing"] jX4:=
 cal3 T.f_is_end kK9 fun _ _ _ _ _ _ _ hr hu nd=>
  (jJj (jKa (jYu (jJo jVd (by rfl) T.n_isinstance rfl (jJa (jJb 0) (jJa (e_ty rfl T.n_tuple rfl) jJe))) (jYu (kKe (jYi hr.units) (jJo jYx (by rfl) T.n_len PySem.boot_len (jJa (jJb 0) jJe)) jJl (jJt _)) (jYu (jKn (jUo T) (hr.mono (by decide)) (jJa (e_ix (ix_F hu) (jJb 0) jJl (fun _ _=>rfl)) jJe)) (kKd (jKn (jUo T) (hr.mono (by decide)) (jJa (e_ix (ix_F hu) (jJb 0) jJl (fun _ _=>rfl)) jJe))))))))
theorem kVe (T:Txt K mg):Cal P w K mg base 3 "is_room" ["thing"] jV1:=
 cal3 T.f_is_room kJ0 fun _ _ _ _ _ _ _ hr hu nd=>
  (jJj (jKa (jYu (jJo jVd (by rfl) T.n_isinstance rfl (jJa (jJb 0) (jJa (e_ty rfl T.n_tuple rfl) jJe))) (kKd (jJo (qU2 rfl) (by rfl) T.n_all rfl (jJa (jQi (mask:=[false,true]) rfl ⟨rfl,rfl,rfl,rfl,rfl,rfl,rfl⟩ (jVb (jJb 0)) jJx (fun C fp s H=>(jJp (i:=1) nd)) (fun C fp s H=>jK7) (fun C fp s H=>(jKn (kXz T) (hr.mono (by decide)) (jJa (jJb 1) jJe)))) jJe))))))
theorem kJb (T:Txt K mg):Cal P w K mg base 3 "leads_back" ["rooms","room","door"] jQ5:=
 cal3 T.f_leads_back jX9 fun _ _ _ _ _ _ _ hr hu nd=>
  (jJf (jKh (i:=3) nd (e_ix (ix_F hu) (e_ix (ix_F hu) (jJb 0) (jJb 1) (fun _ _=>rfl)) (jJb 2) (fun _ _=>rfl)))
   (jJf (s_if (kJu (jY5 (jKn (jU2 T) (hr.mono (by decide)) (jJa (jJb 0) (jJa (e_ix (ix_F hu) (jJb 3) jJl (fun _ _=>rfl)) jJe))))) (jJj (jKa e_bl)) jKo)
   (jJf (s_if (kJu (qQa (qQx hu) o_lt jJl (e_ix (ix_F hu) (jJb 3) jJl (fun _ _=>rfl)) (jJo jYx (by rfl) T.n_len PySem.boot_len (jJa (e_ix (ix_F hu) (jJb 0) (e_ix (ix_F hu) (jJb 3) jJl (fun _ _=>rfl)) (fun _ _=>rfl)) jJe)))) (jJj (jKa e_bl)) jKo)
   (jJj (jKa (kKe (jYi hr.units) (e_ix (ix_F hu) (e_ix (ix_F hu) (jJb 0) (e_ix (ix_F hu) (jJb 3) jJl (fun _ _=>rfl)) (fun _ _=>rfl)) (e_ix (ix_F hu) (jJb 3) jJl (fun _ _=>rfl)) (fun _ _=>rfl)) (jUr (jJa (jJb 1) (jJa (jJb 2) jJe))) (jJt _)))))))
theorem jXn (T:Txt K mg):Cal P w K mg base 4 "all_lead_back" ["rooms"] jK1:=
 cal3 T.f_all_lead_back jVn fun _ _ _ _ _ _ _ hr hu nd=>
  (jJf (jUd PassesOwn.never rfl (i_enT rfl T.n_enumerate rfl (jJa (jJb 0) jJe)) (jYp rfl (jJz (jJp (i:=1) nd) (jJz (jJp (i:=2) nd) jUp))) (jJj (jUd PassesOwn.never rfl (jKk rfl T.n_range (jJa (jJo jYx (by rfl) T.n_len PySem.boot_len (jJa (jJb 2) jJe)) jJe)) (jJp (i:=3) nd) (jJj (s_if (kJu (jY5 (jKn (kJb T) (hr.mono (by decide)) (jJa (jJb 0) (jJa (jJb 1) (jJa (jJb 3) jJe)))))) (jJj (jKa e_bl)) jKo)))))
   (jJj (jKa e_bl)))
theorem jXm (T:Txt K mg):Cal P w K mg base 1 "first_comings" ["web","room"] jK0:=
 cal3 T.f_first_comings jVm fun _ _ _ _ _ _ _ hr hu nd=>
  (jJf (jKh (i:=2) nd (qUl (jJb 1) e_non))
   (jJf (jKh (i:=3) nd (jQ0 (jJa (jJb 1) jJe)))
   (jJf (kXe PassesOwn.never (t_tru qK9 (jJb 3)) (jJf (jKh (i:=4) nd (jQ0 jJe))
   (jJf (jUd PassesOwn.never rfl (jVb (jJb 3)) (jJp (i:=5) nd) (jJj (jUd PassesOwn.never rfl (i_enT rfl T.n_enumerate rfl (jJa (e_ix (ix_F hu) (jJb 0) (jJb 5) (fun _ _=>rfl)) jJe)) (jYp rfl (jJz (jJp (i:=6) nd) (jJz (jJp (i:=7) nd) jUp))) (jJj (s_if (jUj (jYg hu) (e_ix (ix_F hu) (jJb 7) jJl (fun _ _=>rfl)) (jJb 2) (jJt _)) (jJf (kJx (jUr (jJa (jJb 5) (jJa (jJb 6) jJe))) (kQk (jJb 2) (e_ix (ix_F hu) (jJb 7) jJl (fun _ _=>rfl)) (s_F hu)))
   (jJj (jUl (e_bm PySem.F.plainAttrs_list PySem.F.slot_list_append PySem.F.type_list_append jQa (jJb 4) (jJa (e_ix (ix_F hu) (jJb 7) jJl (fun _ _=>rfl)) jJe))))) jKo)))))
   (jJj (jKh (i:=3) nd (jJb 4))))))
   (jJj (jKa (jJb 2))))))
theorem kXy (T:Txt K mg):Cal P w K mg base 5 "is_web" ["thing"] jVh:=
 cal3 T.f_is_web kK8 fun _ _ _ _ _ _ _ hr hu nd=>
  (jJf (s_if (PW3.pt (w_or (kJu (jY5 (jJo jVd (by rfl) T.n_isinstance rfl (jJa (jJb 0) (jJa (e_ty rfl T.n_tuple rfl) jJe))))) (kZp (jUj (jYi hr.units) (jJo kZf (by rfl) T.n_len PySem.boot_len (jJa (jJb 0) jJe)) jJl (jJt _))))) (jJj (jKa e_bl)) jKo)
   (jJf (s_if (kJu (jY5 (jJo (qU2 rfl) (by rfl) T.n_all rfl (jJa (jQi (mask:=[false,true]) rfl ⟨rfl,rfl,rfl,rfl,rfl,rfl,rfl⟩ (jVb (jJb 0)) jJx (fun C fp s H=>(jJp (i:=1) nd)) (fun C fp s H=>jK7) (fun C fp s H=>(jKn (kVe T) (hr.mono (by decide)) (jJa (jJb 1) jJe)))) jJe)))) (jJj (jKa e_bl)) jKo)
   (jJj (jKa (jYu (jKn (jXn T) (hr.mono (by decide)) (jJa (jJb 0) jJe)) (kKd (kKe (jYi hr.units) (jJo kZf (by rfl) T.n_len PySem.boot_len (jJa (jKn (jXm T) (hr.mono (by decide)) (jJa (jJb 0) (jJa jJl jJe))) jJe)) (jJo kZf (by rfl) T.n_len PySem.boot_len (jJa (jJb 0) jJe)) (jJt _))))))))
theorem kVc (T:Txt K mg):Cal P w K mg base 2 "tied_on" ["begun","end","rooms","doors"] jUv:=
 cal3 T.f_tied_on kJy fun _ _ _ _ _ _ _ hr hu nd=>
  (jJf (s_if (jUj (o_inFu hu) (jJb 1) (jJb 0) (jJt _)) (jJj (jKa (jQ0 (jJa (jJb 0) jJe)))) jKo)
   (jJf (jKh (i:=4) nd (e_op jKj (jJo (c_maxL rfl) (by rfl) T.n_max rfl (jJa (e_op jKj (jQ0 (jJa jJl jJe)) (jQi (mask:=[false,false,false,false,false,false,false,false,true]) rfl ⟨rfl,rfl,rfl,rfl,rfl,rfl,rfl⟩ (i_fd (jJb 0)) jJx (fun C fp s H=>(jJp (i:=8) nd)) (fun C fp s H=>jK7) (fun C fp s H=>(e_ix (ix_F hu) (jJb 8) jJl (fun _ _=>rfl))))) jJe)) jJl))
   (jJf (jKh (i:=5) nd (jQ0 jJe))
   (jJf (jUd PassesOwn.never rfl (kJi rfl T.n_range (jJa (e_ix (ix_F hu) (jJb 1) jJl (fun _ _=>rfl)) (jJa (jJo (c_min2 rfl) (by rfl) T.n_min rfl (jJa (e_op jKj (jJb 4) jJl) (jJa (jJb 2) jJe))) jJe))) (jJp (i:=6) nd) (jJj (jUd PassesOwn.never rfl (jKk rfl T.n_range (jJa (jJb 3) jJe)) (jJp (i:=7) nd) (jJf (jKh (i:=8) nd (jUr (jJa (jJb 6) (jJa (jJb 7) jJe))))
   (jJj (s_if (jUj (jYg hu) (jJb 8) (jJb 0) (jJt _)) (jJj (jUl (e_bm PySem.F.plainAttrs_list PySem.F.slot_list_append PySem.F.type_list_append jQa (jJb 5) (jJa (jKn (qQt T) (hr.mono (by decide)) (jJa (jJb 0) (jJa (jJb 1) (jJa (jJb 8) jJe)))) jJe)))) jKo))))))
   (jJj (jKa (jJb 5)))))))
theorem jXf (T:Txt K mg):Cal P w K mg base 6 "even_webs" ["rooms","doors"] jQl:=
 cal3 T.f_even_webs jY8 fun _ _ _ _ _ _ _ hr hu nd=>
  (jJf (jKh (i:=2) nd (jQ0 (jJa e_dct jJe)))
   (jJf (jUd PassesOwn.never rfl (jKk rfl T.n_range (jJa (jJb 0) jJe)) (jJp (i:=3) nd) (jJj (jUd PassesOwn.never rfl (jKk rfl T.n_range (jJa (jJb 1) jJe)) (jJp (i:=4) nd) (jJf (jKh (i:=5) nd (jQ0 jJe))
   (jJf (jUd PassesOwn.never rfl (jVb (jJb 2)) (jJp (i:=6) nd) (jJj (jUl (e_bm PySem.F.plainAttrs_list PySem.F.slot_list_extend PySem.F.type_list_extend jXs (jJb 5) (jJa (jKn (kVc T) (hr.mono (by decide)) (jJa (jJb 6) (jJa (jUr (jJa (jJb 3) (jJa (jJb 4) jJe))) (jJa (jJb 0) (jJa (jJb 1) jJe))))) jJe)))))
   (jJj (jKh (i:=2) nd (jJb 5))))))))
   (jJf (kXf (i:=7) (mask:=[false,false,false,false,false,false,true,false,false]) rfl nd ⟨rfl,rfl,rfl,rfl,rfl,rfl,rfl⟩ (jVb (jJb 2)) jJx (fun C fp s H=>(jJp (i:=6) nd)) (fun C fp s H=>jK7) (fun C fp s H=>(jKn (kQd T) (hr.mono (by decide)) (jJa (e_op jVp (jQ0 (jJa (jJb 1) jJe)) (jJb 0)) (jJa (jJb 6) jJe)))))
   (jJj (jKa (jQi (mask:=[false,false,false,false,false,false,false,false,true]) rfl ⟨rfl,rfl,rfl,rfl,rfl,rfl,rfl⟩ (jVb (jJb 7)) jJx (fun C fp s H=>(jJp (i:=8) nd)) (fun C fp s H=>(kYm (jY5 (jKn (kXy T) (hr.mono (by decide)) (jJa (jJb 8) jJe))))) (fun C fp s H=>(jJb 8))))))))
theorem qJf (T:Txt K mg):Cal P w K mg base 1 "_law_box" ["_law_script","_law_k"] jZ3:=
 cal3 T.f_l_box kVa fun _ _ _ _ _ _ _ hr hu nd=>
  (jJf (jKh (i:=2) nd (kY2 (jUj o_lt (jJb 1) (jJo jYx (by rfl) T.n_len PySem.boot_len (jJa (jJb 0) jJe)) (jJt _)) (e_ix (ix_F hu) (jJb 0) (jJb 1) (fun _ _=>rfl)) jJl))
   (jJf (jKh (i:=3) nd (kY2 (jUj o_ge (jJo c_abs (by rfl) T.n_abs rfl (jJa (jJb 2) jJe)) (e_op o_pow jJl jJl) (jJt _)) (jJo c_abs (by rfl) T.n_abs rfl (jJa (jJb 2) jJe)) jJl))
   (jJj (jKa (jQ0 (jJa (jJb 3) (jJa (e_op jYh (e_op jVp (e_op jKj (e_op jKj (e_op jYh (jJb 2) jJl) (e_op jVp jJl (jJb 1))) jJl) jJl) jJl) (jJa jJl jJe))))))))
theorem kXw (T:Txt K mg):Cal P w K mg base 1 "_law_take" ["_law_box_here","_law_many"] jX2:=
 cal3 T.f_l_take kK6 fun _ _ _ _ _ _ _ hr hu nd=>
  (jJf (s_if (jUj o_gt (e_ix (ix_F hu) (jJb 0) jJl (fun _ _=>rfl)) jJl (jJt _)) (jJf (jKh (i:=2) nd (e_op jYh (e_ix (ix_F hu) (jJb 0) jJl (fun _ _=>rfl)) (jJb 1)))
   (jJf (kJx (e_op qKs (e_ix (ix_F hu) (jJb 0) jJl (fun _ _=>rfl)) (jJb 1)) (kQk (jJb 0) jJl (s_F hu)))
   (jJj (jKa (jJb 2))))) jKo)
   (jJf (kJx (e_op jKj (e_ix (ix_F hu) (jJb 0) jJl (fun _ _=>rfl)) jJl) (kQk (jJb 0) jJl (s_F hu)))
   (jJf (jKh (i:=3) nd (e_op jYh (e_op jVp (e_op jKj (e_ix (ix_F hu) (jJb 0) jJl (fun _ _=>rfl)) (e_op jVp jJl (e_ix (ix_F hu) (jJb 0) jJl (fun _ _=>rfl)))) (e_op jKj jJl (e_ix (ix_F hu) (jJb 0) jJl (fun _ _=>rfl)))) jJl))
   (jJf (kJx (e_op jYh (e_op jKj (e_op jVp (jJb 3) (e_op jKj (e_op jYh (jJb 3) jJl) jJl)) (e_ix (ix_F hu) (jJb 0) jJl (fun _ _=>rfl))) jJl) (kQk (jJb 0) jJl (s_F hu)))
   (jJj (jKa (e_op jYh (e_op qKs (e_op jYh (e_op jVp (e_ix (ix_F hu) (jJb 0) jJl (fun _ _=>rfl)) (e_op jKj (e_op jYh (e_ix (ix_F hu) (jJb 0) jJl (fun _ _=>rfl)) jJl) jJl)) jJl) jJl) (jJb 1))))))))
theorem jQf {j:Nat} {sp sp':Sp3} (T:Txt K mg) (C_l_alike:Cal P w K mg base (j) "_law_alike" ["_law_found","_law_due"] sp) (h:∀xs G Q,sp' xs G Q->jKq sp {nx:=fun _ G'=>Q .non G',rt:=Q} (jKu jUu xs) G) (m:Mono sp':=by unfold jX5;(intro xs G Q Q' hq;(repeat' (first | (refine Exists.imp fun _=> ?_) | (refine And.imp_right ?_)));intro k;intros;apply hq;apply k<;>assumption)) (n:∀xs G Q,sp' xs G Q->xs.length=(["_law_found","_law_due"]:List Str).length:=by (intro xs G Q h;repeat (first | exact (congrArg List.length h.1).trans rfl | obtain⟨_,h⟩:=h))):Cal P w K mg base (j+1) "_law_alike" ["_law_found","_law_due"] sp':=
 cal3 T.f_l_alike h (fun _ _ _ _ _ _ _ hr hu nd=>(jJf (s_if (jY5 (jJo jVd (by rfl) T.n_isinstance rfl (jJa (jJb 1) (jJa (jUr (jJa (e_ty rfl T.n_list rfl) (jJa (e_ty rfl T.n_tuple rfl) jJe))) jJe)))) (jJf (s_if (PW3.pt (w_or (kJu (jY5 (jJo jVd (by rfl) T.n_isinstance rfl (jJa (jJb 0) (jJa (jUr (jJa (e_ty rfl T.n_list rfl) (jJa (e_ty rfl T.n_tuple rfl) jJe))) jJe))))) (kZp (jUj (o_neA hr.units) (jJo jVd (by rfl) T.n_isinstance rfl (jJa (jJb 0) (jJa (e_ty rfl T.n_list rfl) jJe))) (jJo jVd (by rfl) T.n_isinstance rfl (jJa (jJb 1) (jJa (e_ty rfl T.n_list rfl) jJe))) (jJt _))))) (jJj (jKa e_bl)) jKo)
   (jJj (jKa (jYu (kKe (jYi hr.units) (jJo jYx (by rfl) T.n_len PySem.boot_len (jJa (jJb 0) jJe)) (jJo jYx (by rfl) T.n_len PySem.boot_len (jJa (jJb 1) jJe)) (jJt _)) (kKd (jJo (qU2 rfl) (by rfl) T.n_all rfl (jJa (jQi (mask:=[false,false,true,true]) rfl ⟨rfl,rfl,rfl,rfl,rfl,rfl,rfl⟩ (i_zipB rfl T.n_zip rfl (jJa (jJb 0) (jJa (jJb 1) jJe))) (kUn (jUq jJx jK6 (jUq jJx jK6 kUo jXk) (kJj jK6 jXk))) (fun C fp s H=>(jYp rfl (jJz (jJp (i:=2) nd) (jJz (jJp (i:=3) nd) jUp)))) (fun C fp s H=>jK7) (fun C fp s H=>(jKn C_l_alike hr (jJa (jJb 2) (jJa (jJb 3) jJe))))) jJe))))))) jKo)
   (jJf (s_if (PW3.pt (w_or (jUj o_isN (jJb 1) e_non (jJt _)) (kZp (jY5 (jJo jVd (by rfl) T.n_isinstance rfl (jJa (jJb 1) (jJa (e_ty rfl T.n_str rfl) jJe))))))) (jJj (jKa (jYu (kKe (jYi hr.units) (jJb 0) (jJb 1) (jJt _)) (kKd (kKe (jYi hr.units) (jJo jVd (by rfl) T.n_isinstance rfl (jJa (jJb 0) (jJa (e_ty rfl T.n_str rfl) jJe))) (jJo jVd (by rfl) T.n_isinstance rfl (jJa (jJb 1) (jJa (e_ty rfl T.n_str rfl) jJe))) (jJt _)))))) jKo)
   (jJj (jKa (jYu (jJo jVd (by rfl) T.n_isinstance rfl (jJa (jJb 0) (jJa (e_ty rfl T.n_int rfl) jJe))) (jYu (kKe (jYi hr.units) (jJo jVd (by rfl) T.n_isinstance rfl (jJa (jJb 0) (jJa (e_ty rfl T.n_bool rfl) jJe))) (jJo jVd (by rfl) T.n_isinstance rfl (jJa (jJb 1) (jJa (e_ty rfl T.n_bool rfl) jJe))) (jJt _)) (kKd (kKe (jYi hr.units) (jJb 0) (jJb 1) (jJt _)))))))))) (m:=m) (n:=n)
theorem jZl (T:Txt K mg):Cal P w K mg base 5 "_law_alike" ["_law_found","_law_due"] (jX5 4):=
 jQf (j:=4) (sp':=jX5 4) T (jQf (j:=3) (sp':=jX5 3) T (jQf (j:=2) (sp':=jX5 2) T (jQf (j:=1) (sp':=jX5 1) T (jQf (j:=0) (sp':=jX5 0) T (cal0 T.f_l_alike) (jVl _)) (jQn 0)) (jQn 1)) (jQn 2)) (jQn 3)
theorem kXv (T:Txt K mg):Cal P w K mg base 1 "_law_told" ["_law_web","_law_room"] jX1:=
 cal3 T.f_l_told kK5 fun _ _ _ _ _ _ _ hr hu nd=>
  (jJf (jKh (i:=2) nd (jQ0 (jJa (jJb 1) jJe)))
   (jJf (jKh (i:=3) nd jJl)
   (jJf (kXe PassesOwn.never (jUj o_lt (jJb 3) (jJo jYx (by rfl) T.n_len PySem.boot_len (jJa (jJb 2) jJe)) (jJt _)) (jJf (jUd PassesOwn.never rfl (jVb (e_ix (ix_F hu) (jJb 0) (e_ix (ix_F hu) (jJb 2) (jJb 3) (fun _ _=>rfl)) (fun _ _=>rfl))) (jYp rfl (jJz (jJp (i:=4) nd) (jJz (jJp (i:=5) nd) jUp))) (jJj (s_if (jUj (jYg hu) (jJb 4) (jJb 2) (jJt _)) (jJj (jUl (e_bm PySem.F.plainAttrs_list PySem.F.slot_list_append PySem.F.type_list_append jQa (jJb 2) (jJa (jJb 4) jJe)))) jKo)))
   (jJj (jKh (i:=3) nd (e_op jKj (jJb 3) jJl)))))
   (jJf (jKh (i:=6) nd (jKt (qU1 rfl) (by rfl) T.n_dict rfl (jJa (jQi (mask:=[false,false,false,false,false,false,false,true,true]) rfl ⟨rfl,rfl,rfl,rfl,rfl,rfl,rfl⟩ (kUm rfl T.n_enumerate rfl (jJa (jJb 2) jJe)) (kUn (jUq jJx jK6 (jUq jJx jK6 kUo jXk) (kJj jK6 jXk))) (fun C fp s H=>(jYp rfl (jJz (jJp (i:=7) nd) (jJz (jJp (i:=8) nd) jUp)))) (fun C fp s H=>jK7) (fun C fp s H=>(jUr (jJa (jJb 8) (jJa (jJb 7) jJe))))) jJe)))
   (jJj (jKa (jKt jXc (by rfl) T.n_tuple rfl (jJa (jQi (mask:=[false,false,false,false,false,false,false,false,true]) rfl ⟨rfl,rfl,rfl,rfl,rfl,rfl,rfl⟩ (jVb (jJb 2)) jJx (fun C fp s H=>(jJp (i:=8) nd)) (fun C fp s H=>jK7) (fun C fp s H=>(jKt jXc (by rfl) T.n_tuple rfl (jJa (jQi (mask:=[false,false,false,false,true,true,false,false,false]) rfl ⟨rfl,rfl,rfl,rfl,rfl,rfl,rfl⟩ (jVb (e_ix (ix_F hu) (jJb 0) (jJb 8) (fun _ _=>rfl))) (kUn (jUq jJx jK6 (jUq jJx jK6 kUo jXk) (kJj jK6 jXk))) (fun C fp s H=>(jYp rfl (jJz (jJp (i:=4) nd) (jJz (jJp (i:=5) nd) jUp)))) (fun C fp s H=>jK7) (fun C fp s H=>(jUr (jJa (e_ix (ix_F hu) (jJb 6) (jJb 4) (fun _ _=>rfl)) (jJa (jJb 5) jJe))))) jJe)))) jJe))))))))
theorem jJq {j:Nat} {sp sp':Sp3} (T:Txt K mg) (C_l_pairings:Cal P w K mg base (j) "_law_pairings" ["_law_ends"] sp) (h:∀xs G Q,sp' xs G Q->jJ5 sp {nx:=fun _ G'=>Q .non G',rt:=Q} (jKu jUt xs) G) (m:Mono sp':=by unfold jU1;(intro xs G Q Q' hq;(repeat' (first | (refine Exists.imp fun _=> ?_) | (refine And.imp_right ?_)));intro k;intros;apply hq;apply k<;>assumption)) (n:∀xs G Q,sp' xs G Q->xs.length=(["_law_ends"]:List Str).length:=by (intro xs G Q h;repeat (first | exact (congrArg List.length h.1).trans rfl | obtain⟨_,h⟩:=h))):Cal P w K mg base (j+1) "_law_pairings" ["_law_ends"] sp':=
 cal3 T.f_l_pairings h (fun _ _ _ _ _ _ _ hr hu nd=>(jJf (s_if (jUj (jYi hr.units) (jJb 0) (jQ0 jJe) (jJt _)) (jJj (jKa (jQ0 (jJa (jQ0 jJe) jJe)))) jKo)
   (jJf (kJx (jUr (jJa (e_ix (ix_F hu) (jJb 0) jJl (fun _ _=>rfl)) (jJa (jYt sl_F (jJb 0) (jZk jJl) kQ7) jJe))) (jYp rfl (jJz (jJp (i:=1) nd) (jJz (jJp (i:=2) nd) jUp))))
   (jJf (kXf (i:=3) (mask:=[false,false,false,false,false,false,true]) rfl nd ⟨rfl,rfl,rfl,rfl,rfl,rfl,rfl⟩ (jVb (jKn C_l_pairings hr (jJa (jJb 2) jJe))) jJx (fun C fp s H=>(jJp (i:=6) nd)) (fun C fp s H=>jK7) (fun C fp s H=>(e_op jKj (jQ0 (jJa (jUr (jJa (jJb 1) (jJa (jJb 1) jJe))) jJe)) (jJb 6))))
   (jJf (jUd PassesOwn.never rfl (kUm rfl T.n_enumerate rfl (jJa (jJb 2) jJe)) (jYp rfl (jJz (jJp (i:=4) nd) (jJz (jJp (i:=5) nd) jUp))) (jJj (jUl (e_bm PySem.F.plainAttrs_list PySem.F.slot_list_extend PySem.F.type_list_extend jXs (jJb 3) (jJa (jQi (mask:=[false,false,false,false,false,false,true]) rfl ⟨rfl,rfl,rfl,rfl,rfl,rfl,rfl⟩ (jVb (jKn C_l_pairings hr (jJa (e_op jKj (jYt sl_F (jJb 2) kQ7 (jZk (jJb 4))) (jYt sl_F (jJb 2) (jZk (e_op jKj (jJb 4) jJl)) kQ7)) jJe))) jJx (fun C fp s H=>(jJp (i:=6) nd)) (fun C fp s H=>jK7) (fun C fp s H=>(e_op jKj (jQ0 (jJa (jUr (jJa (jJb 1) (jJa (jJb 5) jJe))) jJe)) (jJb 6)))) jJe)))))
   (jJj (jKa (jJb 3)))))))) (m:=m) (n:=n)
theorem kJc (T:Txt K mg):Cal P w K mg base 10 "_law_pairings" ["_law_ends"] (jU1 9):=
 jJq (j:=9) (sp':=jU1 9) T (jJq (j:=8) (sp':=jU1 8) T (jJq (j:=7) (sp':=jU1 7) T (jJq (j:=6) (sp':=jU1 6) T (jJq (j:=5) (sp':=jU1 5) T (jJq (j:=4) (sp':=jU1 4) T (jJq (j:=3) (sp':=jU1 3) T (jJq (j:=2) (sp':=jU1 2) T (jJq (j:=1) (sp':=jU1 1) T (jJq (j:=0) (sp':=jU1 0) T (cal0 T.f_l_pairings) (jXl _)) (jJr 0)) (jJr 1)) (jJr 2)) (jJr 3)) (jJr 4)) (jJr 5)) (jJr 6)) (jJr 7)) (jJr 8)
theorem kJd (T:Txt K mg):Cal P w K mg base 1 "_law_all_ends" ["_law_wide","_law_doors"] jQ6:=
 cal3 T.f_l_all_ends jYa fun _ _ _ _ _ _ _ hr hu nd=>
  (jJf (jKh (i:=2) nd (jQ0 jJe))
   (jJf (jUd PassesOwn.never rfl (jKk rfl T.n_range (jJa (jJb 0) jJe)) (jJp (i:=3) nd) (jJj (jUl (e_bm PySem.F.plainAttrs_list PySem.F.slot_list_extend PySem.F.type_list_extend jXs (jJb 2) (jJa (jQi (mask:=[false,false,false,false,true]) rfl ⟨rfl,rfl,rfl,rfl,rfl,rfl,rfl⟩ (jKk rfl T.n_range (jJa (jJb 1) jJe)) jJx (fun C fp s H=>(jJp (i:=4) nd)) (fun C fp s H=>jK7) (fun C fp s H=>(jUr (jJa (jJb 3) (jJa (jJb 4) jJe))))) jJe)))))
   (jJj (jKa (jJb 2)))))
theorem kXx (T:Txt K mg):Cal P w K mg base 11 "_law_even" ["_law_wide","_law_doors"] jX3:=
 cal3 T.f_l_even kK7 fun _ _ _ _ _ _ _ hr hu nd=>
  (jJf (jKh (i:=2) nd (jQ0 jJe))
   (jJf (jUd PassesOwn.never rfl (jVb (jKn (kJc T) (hr.mono (by decide)) (jJa (jKn (kJd T) (hr.mono (by decide)) (jJa (jJb 0) (jJa (jJb 1) jJe))) jJe))) (jJp (i:=3) nd) (jJf (jKh (i:=4) nd (jKt (qU0 rfl hu) (by rfl) T.n_dict rfl (jJa (e_op jKj (jJb 3) (jQi (mask:=[false,false,false,false,false,false,true,true,false,false]) rfl ⟨rfl,rfl,rfl,rfl,rfl,rfl,rfl⟩ (jVb (jJb 3)) (kUn (jUq jJx jK6 (jUq jJx jK6 kUo jXk) (kJj jK6 jXk))) (fun C fp s H=>(jYp rfl (jJz (jJp (i:=6) nd) (jJz (jJp (i:=7) nd) jUp)))) (fun C fp s H=>jK7) (fun C fp s H=>(jUr (jJa (jJb 7) (jJa (jJb 6) jJe)))))) jJe)))
   (jJf (jKh (i:=5) nd (jKt jXc (by rfl) T.n_tuple rfl (jJa (qUm (mask:=[false,false,false,false,false,false,false,false,true,false]) rfl ⟨rfl,rfl,rfl,rfl,rfl,rfl,rfl⟩ (jKk rfl T.n_range (jJa (jJb 0) jJe)) jJx (fun C fp s H=>(jJp (i:=8) nd)) (fun C fp s H=>jK7) (fun C fp s H=>(jKt jXc (by rfl) T.n_tuple rfl (jJa (jQi (mask:=[false,false,false,false,false,false,false,false,false,true]) rfl ⟨rfl,rfl,rfl,rfl,rfl,rfl,rfl⟩ (jKk rfl T.n_range (jJa (jJb 1) jJe)) jJx (fun C fp s H=>(jJp (i:=9) nd)) (fun C fp s H=>jK7) (fun C fp s H=>(e_ix (ix_F hu) (jJb 4) (jUr (jJa (jJb 8) (jJa (jJb 9) jJe))) (fun _ _=>rfl)))) jJe)))) jJe)))
   (jJj (s_if (jUj (jYi hr.units) (jKn (kXv T) (hr.mono (by decide)) (jJa (jJb 5) (jJa jJl jJe))) (jJb 5) (jJt _)) (jJj (jUl (e_bm PySem.F.plainAttrs_list PySem.F.slot_list_append PySem.F.type_list_append jQa (jJb 2) (jJa (jJb 5) jJe)))) jKo)))))
   (jJj (jKa (jJo (qUx hu) (by rfl) T.n_sorted rfl (jJa (jJb 2) jJe))))))
theorem kVd (T:Txt K mg):Cal P w K mg base 1 "_law_sizes" ["_law_most","_law_doors"] jV0:=
 cal3 T.f_l_sizes kJz fun _ _ _ _ _ _ _ hr hu nd=>
  (jJf (jKh (i:=2) nd (jQ0 jJe))
   (jJf (jUd PassesOwn.never rfl (kJi rfl T.n_range (jJa jJl (jJa jJl jJe))) (jJp (i:=3) nd) (jJf (kXf (i:=4) (mask:=[false,false,false,false,false,true]) rfl nd ⟨rfl,rfl,rfl,rfl,rfl,rfl,rfl⟩ (kJi rfl T.n_range (jJa (jJb 1) (jJa jJl jJe))) jJx (fun C fp s H=>(jJp (i:=5) nd)) (fun C fp s H=>(kYm (jUj (qQx hu) (e_op jVp (jJb 3) (jJb 5)) (jJb 0) (jJt _)))) (fun C fp s H=>(jJb 5)))
   (jJj (jUl (e_bm PySem.F.plainAttrs_list PySem.F.slot_list_extend PySem.F.type_list_extend jXs (jJb 2) (jJa (jQi (mask:=[false,false,false,false,false,true]) rfl ⟨rfl,rfl,rfl,rfl,rfl,rfl,rfl⟩ (jVb (jJb 4)) jJx (fun C fp s H=>(jJp (i:=5) nd)) (fun C fp s H=>(kYm (PW3.pt (w_or (jUj o_gt (jJb 5) jJl (jJt _)) (kZp (jUj o_lt (jJb 3) jJl (jJt _))))))) (fun C fp s H=>(jUr (jJa (jJb 3) (jJa (jJb 5) jJe))))) jJe))))))
   (jJj (jKa (jJb 2)))))
theorem kQe (T:Txt K mg):Cal P w K mg base 2 "_law_folded" ["_law_script","_law_many"] jU5:=
 cal3 T.f_l_folded jZ7 fun _ _ _ _ _ _ _ hr hu nd=>
  (jJf (jKh (i:=2) nd (jKt qUy (by rfl) T.n_list rfl (jJa (jYt sl_F (jJb 0) kQ7 (jZk (jJb 1))) jJe)))
   (jJf (jUd PassesOwn.never rfl (kUm rfl T.n_enumerate rfl (jJa (jYt sl_F (jJb 0) (jZk (jJb 1)) (jZk jJl)) jJe)) (jYp rfl (jJz (jJp (i:=3) nd) (jJz (jJp (i:=4) nd) jUp))) (jJj (kJx (e_op jKj (e_ix (ix_F hu) (jJb 2) (e_op jYh (jJb 3) (jJb 1)) (fun _ _=>rfl)) (e_op jVp (jJb 4) (e_op jKj (jJb 3) jJl))) (kQk (jJb 2) (e_op jYh (jJb 3) (jJb 1)) (s_F hu)))))
   (jJj (jKa (jQi (mask:=[false,false,false,true,false]) rfl ⟨rfl,rfl,rfl,rfl,rfl,rfl,rfl⟩ (jKk rfl T.n_range (jJa (jJo (c_max rfl) (by rfl) T.n_max rfl (jJa jJl (jJa (jJo jYx (by rfl) T.n_len PySem.boot_len (jJa (jJb 2) jJe)) jJe))) jJe)) jJx (fun C fp s H=>(jJp (i:=3) nd)) (fun C fp s H=>jK7) (fun C fp s H=>(jKn (qJf T) (hr.mono (by decide)) (jJa (jJb 2) (jJa (jJb 3) jJe)))))))))
theorem ok_law (T:Txt K mg) {f:Addr} {fd:FuncData} (F:Fun K "law" "law" (top 25) f fd):Fn3 P w K mg base 12 f fd ["_law_script"] kXb:=by
 have S:FnScope N_law ["_law_script"] (jJv (top 25)):=⟨rfl,rfl,rfl,by decide +kernel,rfl,by decide +kernel,by decide +kernel⟩
 refine fn3 F S fun cdv A outer s H E hr=>⟨kQ2,?_,kZ2⟩
 have hu:=hu_of hr
 have nd:=S.nd
 exact (jJf (jKh (i:=1) nd (jKn (kVd T) (hr.mono (by decide)) (jJa jJl (jJa jJl jJe))))
   (jJf (jKh (i:=2) nd (jQ0 jJe))
   (jJf (jUd PassesOwn.never rfl (jVb (jKn (kQe T) (hr.mono (by decide)) (jJa (jJb 0) (jJa jJl jJe)))) (jJp (i:=3) nd) (jJj (jUd PassesOwn.never rfl (jKk rfl T.n_range (jJa jJl jJe)) (jJp (i:=4) nd) (jJf (jKh (i:=5) nd (e_ix (ix_F hu) (jJb 1) (jKn (kXw T) (hr.mono (by decide)) (jJa (jJb 3) (jJa (jJo jYx (by rfl) T.n_len PySem.boot_len (jJa (jJb 1) jJe)) jJe))) (fun _ _=>rfl)))
   (jJj (s_if (jUj (qJg hr.units) (jJb 5) (jJb 2) (jJt _)) (jJf (jUl (e_bm PySem.F.plainAttrs_list PySem.F.slot_list_append PySem.F.type_list_append jQa (jJb 2) (jJa (jJb 5) jJe)))
   (jJf (jKh (i:=6) nd (jKn (jXf T) (hr.mono (by decide)) (jJa (e_ix (ix_F hu) (jJb 5) jJl (fun _ _=>rfl)) (jJa (e_ix (ix_F hu) (jJb 5) jJl (fun _ _=>rfl)) jJe))))
   (jJf (jKh (i:=7) nd (jKn (kXx T) (hr.mono (by decide)) (jJa (e_ix (ix_F hu) (jJb 5) jJl (fun _ _=>rfl)) (jJa (e_ix (ix_F hu) (jJb 5) jJl (fun _ _=>rfl)) jJe))))
   (jJf (s_if (kJu (jY5 (jKn (jZl T) (hr.mono (by decide)) (jJa (jJb 6) (jJa (jJb 7) jJe))))) (jJj (jKa e_bl)) jKo)
   (jJf (jUl (e_bm PySem.F.plainAttrs_list PySem.F.slot_list_append PySem.F.type_list_append jQa (jJb 6) (jJa (jUr jJe) jJe)))
   (jJj (s_if (kJu (jY5 (jKn (jZl T) (hr.mono (by decide)) (jJa (jKn (jXf T) (hr.mono (by decide)) (jJa (e_ix (ix_F hu) (jJb 5) jJl (fun _ _=>rfl)) (jJa (e_ix (ix_F hu) (jJb 5) jJl (fun _ _=>rfl)) jJe))) (jJa (jJb 7) jJe))))) (jJj (jKa e_bl)) jKo))))))) jKo))))))
   (jJj (jKa e_bl)))))
def qQd (K:PySem.W.Frag):Sp:=dn K 1 kXb
theorem fn_at {K:PySem.W.Frag} {h:Heap} {mg:Str->Option Value} {x:Str} {i:Nat} {f:Addr} {oc:Value} {od an:Option Addr} {osl:Array (Option Value)} {kV doc pm cdv ct:Value} (X:K.In h) (G:h.Ns mainGlobals mg) (a:PySem.W.nsIn K mainGlobals x=some (some (.ref f)))
  (l:K.lookup f=some ⟨oc,od,.func (PySem.W.fnOf x x (jVc (top i)) (jQs (top i)) (jJv (top i)) .none kV doc pm an cdv ct),osl⟩) (c:PySem.W.codeIn K cdv x=true) (k:PySem.W.keepIn K (.ref f)=true):FnAt K mg x i:=⟨f,_,PySem.W.mg_of X G a,fun_mk l c k⟩
theorem all_mk {l:PySem.W.OpenLaw} {w:World} {K:PySem.W.Frag} {mg:Str->Option Value} {fa:Addr} (hfa:mg "law"=some (.ref fa)) (T:Txt K mg):
  ∃fd:FuncData,(∀(s:Shared) (v:Value),BindsTo s fd ⟨[v],[]⟩ [("_law_script",v)])/\∀base:Heap,K.In base->base.Ns mainGlobals mg->FnOk l.prog w K mg base CX0 12 fa fd ["_law_script"] (qQd K):=by
 obtain⟨f,fd,a,F⟩:=T.f_law
 cases hfa.symm.trans a
 refine⟨fd,fun s v=> ?_,fun base _ _=>ok_law T F⟩
 obtain⟨_,_,kV,doc,pm,an,cdv,ct,_,e,_⟩:=F.ex
 subst e
 exact .of_eq rfl
theorem fr_of {K:PySem.W.Frag} {H:Hp} {a:Addr} {xs:List V} (hO:Only H) (hS:SqL K H a xs):FrL K H a xs:=by
 rcases hS with h | h
 ·rcases h with h | ⟨ob,h⟩
  ·rcases hO a with z | ⟨o,ys,z⟩
   ·rw[z] at h;cases h
   ·rw[z] at h;cases h
  ·exact .inl ⟨ob,h⟩
 ·exact .inr h
theorem jQe {K:PySem.W.Frag} {H:Hp}:∀ns:List Int,Reps K H (jK5 ns) (ns.map V.int)
 | []=>rfl
 | n::ns=>⟨_,_,rfl,rfl,jQe ns⟩
theorem walk {l:PySem.W.OpenLaw} {q:Program} {loose:List Str} {XP:(Str->Option Value)->Heap->Prop} {YP:World->Heap->Prop} {d:DefRec} {K:Params->PySem.W.Frag} (hn:l.most=some 63) (hdf:d.params.defaults=[])
  (hY:∀(w:World) (h:Heap),YP w h->(K w.params).In h)
  (F:∀(w:World) (mg:Str->Option Value) (fa:Addr) (h:Heap),(K w.params).In h->h.Ns mainGlobals mg->mg d.name=some (.ref fa)->
   ∃fd:FuncData,(∀(s:Shared) (u:Value),BindsTo s fd ⟨[u],[]⟩ [("_law_script",u)])/\∀base:Heap,(K w.params).In base->base.Ns mainGlobals mg->FnOk l.prog w (K w.params) mg base CX0 12 fa fd ["_law_script"] (qQd (K w.params))):
  PySem.W.WalkO q loose XP YP l.row.toRowW d [] (fun f vs=>PySem.call f vs):=
 L2.walk_of (n:=63) (k:=12) (x:="_law_script") (CX:=fun _=>CX0) (sp:=fun w=>qQd (K w.params)) hn (by decide) hdf ⟨rfl,rfl,by decide,by decide⟩ hY F
  (fun _ _ a ns hl hO hS=>⟨rfl,[.scr (jK5 ns)],fun _=>none,⟨_,_,rfl,⟨a,_,rfl,fr_of hO hS,jQe ns⟩,rfl⟩,(fun _ _ h=>nomatch h),ns,rfl,hl,fun G' v H' _ _ r=>r⟩) fun _ _ _ _ _ z=>z
end W
def PySem.W.Fast.tw10751089479018620705 : Unit := ()
def PySem.W.Fast.tw7174170532587199596 : Unit := ()
def PySem.W.Fast.tw3692354245865466899 : Unit := ()
def PySem.W.Fast.tw992598934151652534 : Unit := ()
def PySem.W.Fast.tw12915263374808374270 : Unit := ()
def PySem.W.Fast.tw10548225424037859258 : Unit := ()
def PySem.W.Fast.tw2519954495137290585 : Unit := ()
def PySem.W.Fast.tw18140049181525122487 : Unit := ()
def PySem.W.Fast.tw8703093699599925752 : Unit := ()
def PySem.W.Fast.tw1414372450232824345 : Unit := ()
def PySem.W.Fast.tw5919546105738354500 : Unit := ()
def PySem.W.Fast.tw8509797167712625893 : Unit := ()
def PySem.W.Fast.tw5113845646213710887 : Unit := ()
def PySem.W.Fast.tw17517240981061169267 : Unit := ()
def PySem.W.Fast.tw7807741922518361360 : Unit := ()
def PySem.W.Fast.tw3057458631013723509 : Unit := ()
def PySem.W.Fast.tw3205098204681713545 : Unit := ()
def PySem.W.Fast.tw12705246931177601298 : Unit := ()
def PySem.W.Fast.tw4551607958131729716 : Unit := ()
def PySem.W.Fast.tw16061684440783514887 : Unit := ()
def PySem.W.Fast.tw9811351258149580511 : Unit := ()
def PySem.W.Fast.tw6199288579721515371 : Unit := ()
def PySem.W.Fast.tw9433823069069020959 : Unit := ()
def PySem.W.Fast.tw3221419662487308796 : Unit := ()
def PySem.W.Fast.tw3205983189803726359 : Unit := ()
def PySem.W.Fast.tw8747080905964261258 : Unit := ()
def PySem.W.Fast.tw16442720045747338959 : Unit := ()
def PySem.W.Fast.tw12028226349140877890 : Unit := ()
def PySem.W.Fast.tw13703226094219669057 : Unit := ()
def PySem.W.Fast.tw14159503230483356721 : Unit := ()
def PySem.W.Fast.tw15706847571230916096 : Unit := ()
def PySem.W.Fast.tw2338317507220804054 : Unit := ()
def PySem.W.Fast.tw9460009342243932099 : Unit := ()
def PySem.W.Fast.tw14052398482316734760 : Unit := ()
def PySem.W.Fast.tw1256083563559466553 : Unit := ()
def PySem.W.Fast.tw4659116633207627182 : Unit := ()
def PySem.W.Fast.tw6885245492381613501 : Unit := ()
def PySem.W.Fast.tw12116689811272803849 : Unit := ()
def PySem.W.Fast.tw9646041808963461479 : Unit := ()
def PySem.W.Fast.tw696571448753399576 : Unit := ()
def PySem.W.Fast.tw15730865906150804834 : Unit := ()
def PySem.W.Fast.tw11102231631538833239 : Unit := ()
def PySem.W.Fast.tw17612938812120548710 : Unit := ()
def PySem.W.Fast.tw6158736106592455412 : Unit := ()
def PySem.W.Fast.tw6604063734209366072 : Unit := ()
def PySem.W.Fast.tw3398271587286873252 : Unit := ()
def PySem.W.Fast.tw11967719921081328703 : Unit := ()
def PySem.W.Fast.tw8943648933820484395 : Unit := ()
def PySem.W.Fast.tw4766960419339213631 : Unit := ()
def PySem.W.Fast.tw6983764687653557657 : Unit := ()
def PySem.W.Fast.tw7447371528578098231 : Unit := ()
def PySem.W.Fast.tw7867052182793599102 : Unit := ()
def PySem.W.Fast.tw12791621042174465010 : Unit := ()
def PySem.W.Fast.tw13121639358795194808 : Unit := ()
def PySem.W.Fast.tw12291994135847238485 : Unit := ()
def PySem.W.Fast.tw9301599165044448910 : Unit := ()
def PySem.W.Fast.tw2759504488678459324 : Unit := ()
def PySem.W.Fast.tw2741894481930673284 : Unit := ()
def PySem.W.Fast.tw15305512627510642268 : Unit := ()
def PySem.W.Fast.tw12003915316527924682 : Unit := ()
def PySem.W.Fast.tw14764822184413653741 : Unit := ()
def PySem.W.Fast.tw2324027490467223582 : Unit := ()
open PySem PySem.W PyProof.Rows
set_option maxRecDepth 100000 in
set_option maxHeartbeats 0 in
theorem PySem.Challenge.cw_stonewalker_k41_even_webs_holds : PySem.Challenge.rw_stonewalker_k41_even_webs.Holds := by
 w_on;o_law;k_head;(case hw=>w_witness2)
 k_fill
 refine W.walk (l:=PySem.Challenge.rw_stonewalker_k41_even_webs) rfl rfl (fun w h Y=>PySem.W.kIn_of Y) ?F
 case F=>
  intro w mg fa h KX G hmg
  refine W.all_mk hmg ?T
  constructor
  iterate 16 (refine PySem.W.mg_none_of KX G ?_;k_is)
  iterate 22 (refine' W.fn_at KX G ?a ?l ?c ?k;(case a=>k_is);(case l=>k_is);(case c=>k_is);(case k=>k_is))
